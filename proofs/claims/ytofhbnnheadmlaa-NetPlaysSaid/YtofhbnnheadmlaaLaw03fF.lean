/- Law03, Law03f. -/
import Derived.Test.YtofhbnnheadmlaaRef03dF
import Derived.Test.YtofhbnnheadmlaaErrs
import Derived.Deep.CutRange
set_option linter.unusedVariables false
set_option linter.unusedSimpArgs false

section
namespace Go.Proofs.Ytofhbnnheadmlaa
open Go.RowKit Go.Cor

/-- What Get tells: the needle, how many bytes. -/
def resN (l : List UInt8) : Ndl := if getCode l = 0 then getN l else ⟨0, 0, false, []⟩
def resK (l : List UInt8) : Nat := if getCode l = 0 then total l else 0
theorem resN_ok {l : List UInt8} (h : getCode l = 0) : resN l = getN l := if_pos h
theorem resN_no {l : List UInt8} (h : getCode l ≠ 0) : resN l = ⟨0, 0, false, []⟩ := if_neg h
theorem resK_ok {l : List UInt8} (h : getCode l = 0) : resK l = total l := if_pos h
theorem resK_no {l : List UInt8} (h : getCode l ≠ 0) : resK l = 0 := if_neg h
theorem getCode_le (l : List UInt8) : getCode l ≤ 5 := by
  unfold getCode
  repeat' split
  all_goals omega

theorem code_cerr (q : Nat) (w : World) (h : q ≤ 17) :
    Calls Try.prog 18 #[cerr q] w fun e w' => e = .returned (.int .i64 (q : Int)) ∧ w = w' := by
  by_cases h0 : q = 0
  · subst h0
    exact code_nil w
  · rw [cerr_pos h0]
    exact code_code q w (by omega) (by omega)

theorem get_any (v : Value) (l : List UInt8) (w : World) (hv : IsB w v l) (hl : l.length ≤ 1099511627776) :
    Calls Try.prog 59 #[v] w fun e w' =>
      ∃ x c, e = .returned (.tuple #[nval (resN l) (.slice x (resN l).data.length c), .int .i64 (resK l : Nat), cerr (getCode l)]) ∧ w'.ownsRow w.heap.size 5 1 (.slice x (resN l).data.length c) (resN l).data.length (bvs (resN l).data) ∧ Below w.heap.size w w' := by
  have bad : ∀ q : Nat, getCode l = q → q ≠ 0 → (Calls Try.prog 59 #[v] w fun e w' => e = .returned (.tuple #[nzero, .int .i64 0, err (q : Int)]) ∧ Below w.heap.size w w') →
      Calls Try.prog 59 #[v] w fun e w' =>
      ∃ x c, e = .returned (.tuple #[nval (resN l) (.slice x (resN l).data.length c), .int .i64 (resK l : Nat), cerr (getCode l)]) ∧ w'.ownsRow w.heap.size 5 1 (.slice x (resN l).data.length c) (resN l).data.length (bvs (resN l).data) ∧ Below w.heap.size w w' := by
    intro q hq h0 hc
    refine hc.mono ?_
    rintro e w' ⟨rfl, hb⟩
    have hg : getCode l ≠ 0 := by omega
    rw [resN_no hg, resK_no hg, hq, cerr_pos h0]
    exact ⟨none, 0, rfl, World.ownsRow_nil _ _ _ _, hb⟩
  by_cases h1 : l.length < 32
  · exact bad 3 (by unfold getCode; rw [if_pos h1]) (by decide) (get_bad1 v l w hv h1)
  cases h2 : formedB l with
  | false => exact bad 4 (by unfold getCode; rw [if_neg h1, if_pos h2]) (by decide) (get_bad2 v l w hv hl (by omega) h2)
  | true =>
  have h2' : ¬ formedB l = false := by rw [h2]; simp
  by_cases h3 : l.length < total l
  · exact bad 3 (by unfold getCode; rw [if_neg h1, if_neg h2', if_pos h3]) (by decide) (get_bad3 v l w hv hl (by omega) h2 h3)
  cases h4 : sumOkN l with
  | false => exact bad 5 (by unfold getCode; rw [if_neg h1, if_neg h2', if_neg h3, if_pos h4]) (by decide) (get_bad4 v l w hv hl (by omega) h2 (by omega) h4)
  | true =>
  have h4' : ¬ sumOkN l = false := by rw [h4]; simp
  cases h5 : zeroB (padOf l) with
  | false => exact bad 4 (by unfold getCode; rw [if_neg h1, if_neg h2', if_neg h3, if_neg h4', if_pos h5]) (by decide) (get_bad5 v l w hv hl (by omega) h2 (by omega) h4 h5)
  | true =>
  have hg : getCode l = 0 := by
    unfold getCode
    rw [if_neg h1, if_neg h2', if_neg h3, if_neg h4', if_neg (by rw [h5]; simp)]
  refine (get_okN v l w hv hl (by omega) h2 (by omega) h4 h5).mono ?_
  rintro e w' ⟨v', rfl, hown, hb⟩
  obtain ⟨x, c, rfl⟩ := ownsRow_slice hown
  rw [resN_ok hg, resK_ok hg, hg, cerr_0]
  exact ⟨x, c, rfl, hown, hb⟩

theorem put_any (n : Ndl) (v : Value) (w : World) (hv : IsB w v n.data) (hf : n.fits) :
    Calls Try.prog 38 #[nval n v] w fun e w' =>
      ∃ x c k, e = .returned (.tuple #[.slice x k c, cerr (ncheck n)]) ∧ Below w.heap.size w w' ∧
        ((ncheck n = 0 ∧ k = (nbytes n).length ∧ w'.ownsRow w.heap.size 5 1 (.slice x k c) k (bvs (nbytes n))) ∨ (ncheck n ≠ 0 ∧ k = 0)) := by
  by_cases h : ncheck n = 0
  · refine (put_okN n v w hv hf h).mono ?_
    rintro e w' ⟨v', rfl, hown, hb⟩
    obtain ⟨x, c, rfl⟩ := ownsRow_slice hown
    rw [h, cerr_0]
    exact ⟨x, c, _, rfl, hb, .inl ⟨rfl, rfl, hown⟩⟩
  · refine (put_badN n v w hv h).mono ?_
    rintro e w' ⟨rfl, hb⟩
    rw [cerr_pos h]
    exact ⟨none, 0, 0, rfl, hb, .inr ⟨h, rfl⟩⟩

/-- The chapter's example. -/
def ex3 : Ndl := ⟨7, 9, false, [1, 2, 3, 4, 5]⟩
theorem ex3_fits : ex3.fits := by unfold Ndl.fits ex3; decide
theorem ex3_len : (nbytes ex3).length = 40 := by rw [length_nbytes]; rfl
theorem ex3_get : getCode (nbytes ex3) = 0 ∧ getN (nbytes ex3) = ex3 ∧ total (nbytes ex3) = 40 := by
  have h := get_put ex3_fits rfl []
  rw [List.append_nil] at h
  exact ⟨h.1, h.2.1, by rw [h.2.2, ex3_len]⟩
theorem ex3_resN : resN (nbytes ex3) = ex3 := by rw [resN_ok ex3_get.1, ex3_get.2.1]
theorem ex3_resK : resK (nbytes ex3) = 40 := by rw [resK_ok ex3_get.1, ex3_get.2.2]
theorem nil_get : getCode [] = 3 := by unfold getCode; rw [if_pos (by decide)]
theorem nil_resN : resN [] = ⟨0, 0, false, []⟩ := resN_no (by rw [nil_get]; decide)
theorem nil_resK : resK [] = 0 := resK_no (by rw [nil_get]; decide)
theorem cerr_3 : cerr 3 = err 3 := rfl
theorem ex3_val (x : Option Addr) (c : Nat) : nval ex3 (.slice x ex3.data.length c) = .agg #[.int .u64 7, .int .u32 9, .bool false, .slice x 5 c] := rfl
theorem nil_val (x : Option Addr) (c : Nat) : nval ⟨0, 0, false, []⟩ (.slice x (Ndl.data ⟨0, 0, false, []⟩).length c) = .agg #[.int .u64 0, .int .u32 0, .bool false, .slice x 0 c] := rfl
theorem nsize_5 : nsize 5 = 40 := by decide
theorem box_at {w w' : World} {u0 u1 u2 u3 : Value} {T : TypeId} (hb : Below (w.alloc (.cells #[u0, u1, u2, u3] T)).heap.size (w.alloc (.cells #[u0, u1, u2, u3] T)) w') :
    w'.cell? ⟨w.heap.size, 0, none⟩ = some u0 ∧ w'.cell? ⟨w.heap.size, 1, none⟩ = some u1 ∧ w'.cell? ⟨w.heap.size, 2, none⟩ = some u2 ∧ w'.cell? ⟨w.heap.size, 3, none⟩ = some u3 := by
  have c : ∀ o, w'.cell? ⟨w.heap.size, o, none⟩ = (w.alloc (.cells #[u0, u1, u2, u3] T)).cell? ⟨w.heap.size, o, none⟩ := fun o => hb.cell (p := ⟨w.heap.size, o, none⟩) (by simp)
  refine ⟨?_, ?_, ?_, ?_⟩ <;> (rw [c]; go_simp)

end Go.Proofs.Ytofhbnnheadmlaa
end

section
namespace Go.Proofs.Ytofhbnnheadmlaa
open Go.RowKit Go.Cor

theorem slice_l_B {P : Program} {w : World} {v : Value} {l : List UInt8} (hv : IsB w v l) (T U : TypeId) (ht : P.underlying T = some (.slice U)) (hs : (P.info? U).map (·.size) = some 1) (lo : Nat) (h2 : lo ≤ l.length) :
    ∃ sv, (∀ W, (Instr.slice T v (some (.int .i64 (lo : Int))) none none).run P W = .ok sv W) ∧ IsB w sv (l.drop lo) := by
  obtain ⟨i, hi1, hi2⟩ := Option.map_eq_some_iff.1 hs
  obtain ⟨a, cap, rfl, k1, k2, k0, k3⟩ := hv
  have ht' : P.underlying T = some (.slice (P.elem T)) := by simp [Program.elem, ht]
  have he : P.elem T = U := by simp [Program.elem, ht]
  have hsz : ∀ W, (sizeOf U).run P W = .ok 1 W := fun W => by simp [sizeOf, typeInfo, hi1, hi2]
  refine ⟨sliced a lo l.length cap 1, fun W => ?_, ?_⟩
  · rw [run_slice_l W T _ _ _ ht' .i64 _ (by omega) (by omega), he, hsz]
    simp [Result.andThen]
  · have hlen : (l.drop lo).length = l.length - lo := by simp
    unfold sliced
    refine ⟨_, _, by rw [hlen], by rw [hlen]; omega, by omega, fun hx => ?_, ?_⟩
    · split at hx
      · omega
      · have : a = none := by simpa using hx
        rw [k0 this]
        omega
    · rw [hlen]
      by_cases h0 : l.length - lo = 0
      · exact .inl h0
      · rcases k3 with k3 | ⟨b, off, rfl, hc⟩
        · omega
        · rw [if_neg (by omega)]
          refine .inr ⟨b, off + lo, by simp [add_lit], fun i hi => ?_⟩
          rw [show off + lo + i = off + (lo + i) from by omega, hc (lo + i) (by omega)]
          congr 2
          simp only [List.getD_eq_getElem?_getD, List.getElem?_drop]

/-- All their bytes. -/
def catN : List Ndl → List UInt8
  | [] => []
  | n :: r => nbytes n ++ catN r
theorem catN_append (a b : List Ndl) : catN (a ++ b) = catN a ++ catN b := by
  induction a with
  | nil => rfl
  | cons n r ih => simp [catN, ih, List.append_assoc]
theorem catN_le {ns : List Ndl} (h : ∀ n ∈ ns, n.data.length ≤ 4096) : (catN ns).length ≤ 5000 * ns.length := by
  induction ns with
  | nil => simp [catN]
  | cons n r ih =>
    have h1 := ih (fun m hm => h m (List.mem_cons_of_mem _ hm))
    have h2 := h n (List.mem_cons_self ..)
    have h3 := padn_lt n.data.length
    simp only [catN, List.length_append, length_nbytes, List.length_cons]
    omega

theorem keep8l {wz wa : World} {b1 b2 o2 o3 o4 o5 : Nat} {u0 u1 u2 u3 t0 t1 t2 t3 : Value} (hb : Below wz.heap.size wz wa)
    (K : wz.cell? ⟨b1, 0, none⟩ = some u0 ∧ wz.cell? ⟨b1, 1, none⟩ = some u1 ∧ wz.cell? ⟨b1, 2, none⟩ = some u2 ∧ wz.cell? ⟨b1, 3, none⟩ = some u3 ∧ wz.cell? ⟨b2, o2, none⟩ = some t0 ∧ wz.cell? ⟨b2, o3, none⟩ = some t1 ∧ wz.cell? ⟨b2, o4, none⟩ = some t2 ∧ wz.cell? ⟨b2, o5, none⟩ = some t3) :
    wa.cell? ⟨b1, 0, none⟩ = some u0 ∧ wa.cell? ⟨b1, 1, none⟩ = some u1 ∧ wa.cell? ⟨b1, 2, none⟩ = some u2 ∧ wa.cell? ⟨b1, 3, none⟩ = some u3 ∧ wa.cell? ⟨b2, o2, none⟩ = some t0 ∧ wa.cell? ⟨b2, o3, none⟩ = some t1 ∧ wa.cell? ⟨b2, o4, none⟩ = some t2 ∧ wa.cell? ⟨b2, o5, none⟩ = some t3 := by
  have c : ∀ (p : Addr) u, wz.cell? p = some u → wa.cell? p = some u := fun p u h => (hb.cell (cell_lt h)).trans h
  obtain ⟨K0, K1, K2, K3, K4, K5, K6, K7⟩ := K
  exact ⟨c _ _ K0, c _ _ K1, c _ _ K2, c _ _ K3, c _ _ K4, c _ _ K5, c _ _ K6, c _ _ K7⟩

/-- v is a slice of needles. -/
def IsR (w : World) (v : Value) (ns : List Ndl) : Prop :=
  ∃ b off cap, v = .slice (some ⟨b, off, none⟩) ns.length cap ∧ ns.length ≤ cap ∧ cap ≤ maxLen ∧
    ∀ i n, ns[i]? = some n → n.fits ∧ ∃ dv, w.cell? ⟨b, off + i * 4, none⟩ = some (.int .u64 (n.key : Int)) ∧ w.cell? ⟨b, off + i * 4 + 1, none⟩ = some (.int .u32 (n.cookie : Int)) ∧ w.cell? ⟨b, off + i * 4 + 2, none⟩ = some (.bool n.gone) ∧ w.cell? ⟨b, off + i * 4 + 3, none⟩ = some dv ∧ IsB w dv n.data

end Go.Proofs.Ytofhbnnheadmlaa
end
