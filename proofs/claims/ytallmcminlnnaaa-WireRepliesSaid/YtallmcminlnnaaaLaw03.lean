/- The statements of layer 3 (needle): what Get tells. -/
import Derived.Test.YtallmcminlnnaaaRef03d
import Derived.Test.YtallmcminlnnaaaErrs
set_option linter.unusedVariables false
set_option linter.unusedSimpArgs false
namespace Go.Proofs.Ytallmcminlnnaaa
open Go.RowKit Go.Cor

/-- What Get tells: the needle, how many bytes. -/
def resN (l : List UInt8) : Ndl := if getCode l = 0 then getN l else ⟨0, 0, false, []⟩
def resK (l : List UInt8) : Nat := if getCode l = 0 then total l else 0
theorem resN_ok {l : List UInt8} (h : getCode l = 0) : resN l = getN l := if_pos h
theorem resN_no {l : List UInt8} (h : getCode l ≠ 0) : resN l = ⟨0, 0, false, []⟩ := if_neg h
theorem resK_ok {l : List UInt8} (h : getCode l = 0) : resK l = total l := if_pos h
theorem resK_no {l : List UInt8} (h : getCode l ≠ 0) : resK l = 0 := if_neg h
theorem getCode_le (l : List UInt8) : getCode l ≤ 5 := by
  unfold getCode
  repeat' split
  all_goals omega

theorem code_cerr (q : Nat) (w : World) (h : q ≤ 17) :
    Calls Try.prog 10 #[cerr q] w fun e w' => e = .returned (.int .i64 (q : Int)) ∧ w = w' := by
  by_cases h0 : q = 0
  · subst h0
    exact code_nil w
  · rw [cerr_pos h0]
    exact code_code q w (by omega) (by omega)

theorem get_any (v : Value) (l : List UInt8) (w : World) (hv : IsB w v l) (hl : l.length ≤ 1099511627776) :
    Calls Try.prog 37 #[v] w fun e w' =>
      ∃ x c, e = .returned (.tuple #[nval (resN l) (.slice x (resN l).data.length c), .int .i64 (resK l : Nat), cerr (getCode l)]) ∧ w'.ownsRow w.heap.size 5 1 (.slice x (resN l).data.length c) (resN l).data.length (bvs (resN l).data) ∧ Below w.heap.size w w' := by
  have bad : ∀ q : Nat, getCode l = q → q ≠ 0 → (Calls Try.prog 37 #[v] w fun e w' => e = .returned (.tuple #[nzero, .int .i64 0, err (q : Int)]) ∧ Below w.heap.size w w') →
      Calls Try.prog 37 #[v] w fun e w' =>
      ∃ x c, e = .returned (.tuple #[nval (resN l) (.slice x (resN l).data.length c), .int .i64 (resK l : Nat), cerr (getCode l)]) ∧ w'.ownsRow w.heap.size 5 1 (.slice x (resN l).data.length c) (resN l).data.length (bvs (resN l).data) ∧ Below w.heap.size w w' := by
    intro q hq h0 hc
    refine hc.mono ?_
    rintro e w' ⟨rfl, hb⟩
    have hg : getCode l ≠ 0 := by omega
    rw [resN_no hg, resK_no hg, hq, cerr_pos h0]
    exact ⟨none, 0, rfl, World.ownsRow_nil _ _ _ _, hb⟩
  by_cases h1 : l.length < 32
  · exact bad 3 (by unfold getCode; rw [if_pos h1]) (by decide) (get_bad1 v l w hv h1)
  cases h2 : formedB l with
  | false => exact bad 4 (by unfold getCode; rw [if_neg h1, if_pos h2]) (by decide) (get_bad2 v l w hv hl (by omega) h2)
  | true =>
  have h2' : ¬ formedB l = false := by rw [h2]; simp
  by_cases h3 : l.length < total l
  · exact bad 3 (by unfold getCode; rw [if_neg h1, if_neg h2', if_pos h3]) (by decide) (get_bad3 v l w hv hl (by omega) h2 h3)
  cases h4 : sumOkN l with
  | false => exact bad 5 (by unfold getCode; rw [if_neg h1, if_neg h2', if_neg h3, if_pos h4]) (by decide) (get_bad4 v l w hv hl (by omega) h2 (by omega) h4)
  | true =>
  have h4' : ¬ sumOkN l = false := by rw [h4]; simp
  cases h5 : zeroB (padOf l) with
  | false => exact bad 4 (by unfold getCode; rw [if_neg h1, if_neg h2', if_neg h3, if_neg h4', if_pos h5]) (by decide) (get_bad5 v l w hv hl (by omega) h2 (by omega) h4 h5)
  | true =>
  have hg : getCode l = 0 := by
    unfold getCode
    rw [if_neg h1, if_neg h2', if_neg h3, if_neg h4', if_neg (by rw [h5]; simp)]
  refine (get_okN v l w hv hl (by omega) h2 (by omega) h4 h5).mono ?_
  rintro e w' ⟨v', rfl, hown, hb⟩
  obtain ⟨x, c, rfl⟩ := ownsRow_slice hown
  rw [resN_ok hg, resK_ok hg, hg, cerr_0]
  exact ⟨x, c, rfl, hown, hb⟩

theorem refget_anyO (v : Value) (l : List UInt8) (w : World) (hv : IsB w v l) (hl : l.length ≤ 1099511627776) :
    Calls Try.prog 26 #[v] w fun e w' =>
      ∃ x c, e = .returned (.tuple #[nval (resN l) (.slice x (resN l).data.length c), .int .i64 (resK l : Nat), .int .i64 (getCode l : Nat)]) ∧ w'.ownsRow w.heap.size 5 1 (.slice x (resN l).data.length c) (resN l).data.length (bvs (resN l).data) ∧ Below w.heap.size w w' := by
  have bad : ∀ q : Nat, getCode l = q → q ≠ 0 → (Calls Try.prog 26 #[v] w fun e w' => e = .returned (.tuple #[nzero, .int .i64 0, .int .i64 (q : Int)]) ∧ Below w.heap.size w w') →
      Calls Try.prog 26 #[v] w fun e w' =>
      ∃ x c, e = .returned (.tuple #[nval (resN l) (.slice x (resN l).data.length c), .int .i64 (resK l : Nat), .int .i64 (getCode l : Nat)]) ∧ w'.ownsRow w.heap.size 5 1 (.slice x (resN l).data.length c) (resN l).data.length (bvs (resN l).data) ∧ Below w.heap.size w w' := by
    intro q hq h0 hc
    refine hc.mono ?_
    rintro e w' ⟨rfl, hb⟩
    have hg : getCode l ≠ 0 := by omega
    rw [resN_no hg, resK_no hg, hq]
    exact ⟨none, 0, rfl, World.ownsRow_nil _ _ _ _, hb⟩
  by_cases h1 : l.length < 32
  · exact bad 3 (by unfold getCode; rw [if_pos h1]) (by decide) (refget_bad1 v l w hv h1)
  cases h2 : formedB l with
  | false => exact bad 4 (by unfold getCode; rw [if_neg h1, if_pos h2]) (by decide) (refget_bad2 v l w hv hl (by omega) h2)
  | true =>
  have h2' : ¬ formedB l = false := by rw [h2]; simp
  by_cases h3 : l.length < total l
  · exact bad 3 (by unfold getCode; rw [if_neg h1, if_neg h2', if_pos h3]) (by decide) (refget_bad3 v l w hv hl (by omega) h2 h3)
  cases h4 : sumOkN l with
  | false => exact bad 5 (by unfold getCode; rw [if_neg h1, if_neg h2', if_neg h3, if_pos h4]) (by decide) (refget_bad4 v l w hv hl (by omega) h2 (by omega) h4)
  | true =>
  have h4' : ¬ sumOkN l = false := by rw [h4]; simp
  cases h5 : zeroB (padOf l) with
  | false => exact bad 4 (by unfold getCode; rw [if_neg h1, if_neg h2', if_neg h3, if_neg h4', if_pos h5]) (by decide) (refget_bad5 v l w hv hl (by omega) h2 (by omega) h4 h5)
  | true =>
  have hg : getCode l = 0 := by
    unfold getCode
    rw [if_neg h1, if_neg h2', if_neg h3, if_neg h4', if_neg (by rw [h5]; simp)]
  refine (refget_okO v l w hv hl (by omega) h2 (by omega) h4 h5).mono ?_
  rintro e w' ⟨v', rfl, hown, hb⟩
  obtain ⟨x, c, rfl⟩ := ownsRow_slice hown
  rw [resN_ok hg, resK_ok hg, hg]
  exact ⟨x, c, rfl, hown, hb⟩

theorem refget_any (v : Value) (l : List UInt8) (w : World) (hv : IsB w v l) (hl : l.length ≤ 1099511627776) :
    Calls Try.prog 26 #[v] w fun e w' =>
      ∃ x c, e = .returned (.tuple #[nval (resN l) (.slice x (resN l).data.length c), .int .i64 (resK l : Nat), .int .i64 (getCode l : Nat)]) ∧ IsB w' (.slice x (resN l).data.length c) (resN l).data ∧ Below w.heap.size w w' := by
  have bad : ∀ q : Nat, getCode l = q → q ≠ 0 → (Calls Try.prog 26 #[v] w fun e w' => e = .returned (.tuple #[nzero, .int .i64 0, .int .i64 (q : Int)]) ∧ Below w.heap.size w w') →
      Calls Try.prog 26 #[v] w fun e w' =>
      ∃ x c, e = .returned (.tuple #[nval (resN l) (.slice x (resN l).data.length c), .int .i64 (resK l : Nat), .int .i64 (getCode l : Nat)]) ∧ IsB w' (.slice x (resN l).data.length c) (resN l).data ∧ Below w.heap.size w w' := by
    intro q hq h0 hc
    refine hc.mono ?_
    rintro e w' ⟨rfl, hb⟩
    have hg : getCode l ≠ 0 := by omega
    rw [resN_no hg, resK_no hg, hq]
    exact ⟨none, 0, rfl, IsB.nil _, hb⟩
  by_cases h1 : l.length < 32
  · exact bad 3 (by unfold getCode; rw [if_pos h1]) (by decide) (refget_bad1 v l w hv h1)
  cases h2 : formedB l with
  | false => exact bad 4 (by unfold getCode; rw [if_neg h1, if_pos h2]) (by decide) (refget_bad2 v l w hv hl (by omega) h2)
  | true =>
  have h2' : ¬ formedB l = false := by rw [h2]; simp
  by_cases h3 : l.length < total l
  · exact bad 3 (by unfold getCode; rw [if_neg h1, if_neg h2', if_pos h3]) (by decide) (refget_bad3 v l w hv hl (by omega) h2 h3)
  cases h4 : sumOkN l with
  | false => exact bad 5 (by unfold getCode; rw [if_neg h1, if_neg h2', if_neg h3, if_pos h4]) (by decide) (refget_bad4 v l w hv hl (by omega) h2 (by omega) h4)
  | true =>
  have h4' : ¬ sumOkN l = false := by rw [h4]; simp
  cases h5 : zeroB (padOf l) with
  | false => exact bad 4 (by unfold getCode; rw [if_neg h1, if_neg h2', if_neg h3, if_neg h4', if_pos h5]) (by decide) (refget_bad5 v l w hv hl (by omega) h2 (by omega) h4 h5)
  | true =>
  have hg : getCode l = 0 := by
    unfold getCode
    rw [if_neg h1, if_neg h2', if_neg h3, if_neg h4', if_neg (by rw [h5]; simp)]
  refine (refget_ok v l w hv hl (by omega) h2 (by omega) h4 h5).mono ?_
  rintro e w' ⟨v', rfl, hB, hb⟩
  obtain ⟨x, c, rfl, _, _⟩ := hB.at_len rfl
  rw [resN_ok hg, resK_ok hg, hg]
  exact ⟨x, c, rfl, hB, hb⟩

theorem put_any (n : Ndl) (v : Value) (w : World) (hv : IsB w v n.data) (hf : n.fits) :
    Calls Try.prog 30 #[nval n v] w fun e w' =>
      ∃ x c k, e = .returned (.tuple #[.slice x k c, cerr (ncheck n)]) ∧ Below w.heap.size w w' ∧
        ((ncheck n = 0 ∧ k = (nbytes n).length ∧ w'.ownsRow w.heap.size 5 1 (.slice x k c) k (bvs (nbytes n))) ∨ (ncheck n ≠ 0 ∧ k = 0)) := by
  by_cases h : ncheck n = 0
  · refine (put_okN n v w hv hf h).mono ?_
    rintro e w' ⟨v', rfl, hown, hb⟩
    obtain ⟨x, c, rfl⟩ := ownsRow_slice hown
    rw [h, cerr_0]
    exact ⟨x, c, _, rfl, hb, .inl ⟨rfl, rfl, hown⟩⟩
  · refine (put_badN n v w hv h).mono ?_
    rintro e w' ⟨rfl, hb⟩
    rw [cerr_pos h]
    exact ⟨none, 0, 0, rfl, hb, .inr ⟨h, rfl⟩⟩

/-- The chapter's example. -/
def ex3 : Ndl := ⟨7, 9, false, [1, 2, 3, 4, 5]⟩
theorem ex3_fits : ex3.fits := by unfold Ndl.fits ex3; decide
theorem ex3_len : (nbytes ex3).length = 40 := by rw [length_nbytes]; rfl
theorem ex3_get : getCode (nbytes ex3) = 0 ∧ getN (nbytes ex3) = ex3 ∧ total (nbytes ex3) = 40 := by
  have h := get_put ex3_fits rfl []
  rw [List.append_nil] at h
  exact ⟨h.1, h.2.1, by rw [h.2.2, ex3_len]⟩
theorem ex3_resN : resN (nbytes ex3) = ex3 := by rw [resN_ok ex3_get.1, ex3_get.2.1]
theorem ex3_resK : resK (nbytes ex3) = 40 := by rw [resK_ok ex3_get.1, ex3_get.2.2]
theorem nil_get : getCode [] = 3 := by unfold getCode; rw [if_pos (by decide)]
theorem nil_resN : resN [] = ⟨0, 0, false, []⟩ := resN_no (by rw [nil_get]; decide)
theorem nil_resK : resK [] = 0 := resK_no (by rw [nil_get]; decide)
theorem cerr_3 : cerr 3 = err 3 := rfl
theorem ex3_val (x : Option Addr) (c : Nat) : nval ex3 (.slice x ex3.data.length c) = .agg #[.int .u64 7, .int .u32 9, .bool false, .slice x 5 c] := rfl
theorem nil_val (x : Option Addr) (c : Nat) : nval ⟨0, 0, false, []⟩ (.slice x (Ndl.data ⟨0, 0, false, []⟩).length c) = .agg #[.int .u64 0, .int .u32 0, .bool false, .slice x 0 c] := rfl
theorem nsize_5 : nsize 5 = 40 := by decide
theorem box_at {w w' : World} {u0 u1 u2 u3 : Value} {T : TypeId} (hb : Below (w.alloc (.cells #[u0, u1, u2, u3] T)).heap.size (w.alloc (.cells #[u0, u1, u2, u3] T)) w') :
    w'.cell? ⟨w.heap.size, 0, none⟩ = some u0 ∧ w'.cell? ⟨w.heap.size, 1, none⟩ = some u1 ∧ w'.cell? ⟨w.heap.size, 2, none⟩ = some u2 ∧ w'.cell? ⟨w.heap.size, 3, none⟩ = some u3 := by
  have c : ∀ o, w'.cell? ⟨w.heap.size, o, none⟩ = (w.alloc (.cells #[u0, u1, u2, u3] T)).cell? ⟨w.heap.size, o, none⟩ := fun o => hb.cell (p := ⟨w.heap.size, o, none⟩) (by simp)
  refine ⟨?_, ?_, ?_, ?_⟩ <;> (rw [c]; go_simp)

end Go.Proofs.Ytallmcminlnnaaa
