/- Package needle by contracts: the needle of bytes. -/
import Derived.Test.YtncfdkkekaninaaNeedleb
set_option linter.unusedVariables false
set_option linter.unusedSimpArgs false
namespace Go.Proofs.Ytncfdkkekaninaa
open Go.RowKit Go.Cor

theorem zeroB_first {l : List UInt8} (h : zeroB l = false) : ∃ p, p < l.length ∧ l.getD p 0 ≠ 0 ∧ ∀ i, i < p → l.getD i 0 = 0 := by
  induction l with
  | nil => simp [zeroB] at h
  | cons x l ih =>
    by_cases hx : x = 0
    · subst hx
      have h' : zeroB l = false := by
        unfold zeroB at h ⊢
        simpa using h
      obtain ⟨p, h1, h2, h3⟩ := ih h'
      refine ⟨p + 1, by simpa using h1, by simpa using h2, fun i hi => ?_⟩
      cases i with
      | zero => rfl
      | succ i => simpa using h3 i (by omega)
    · exact ⟨0, by simp, by simpa using hx, fun i hi => by omega⟩

/-- Where bytes lie, if there are some. -/
theorem IsB.addr {w : World} {v : Value} {l : List UInt8} {n : Nat} (h : IsB w v l) (hn : l.length = n) (h0 : 0 < n) : ∃ b off cap, v = .slice (some ⟨b, off, none⟩) n cap ∧ n ≤ cap ∧ cap ≤ maxLen := by
  obtain ⟨a, cap, rfl, h1, h2, _, h3⟩ := h
  rcases h3 with h3 | ⟨b, off, rfl, _⟩
  · omega
  · exact ⟨b, off, cap, by rw [hn], by omega, h2⟩
theorem IsB.subAt {w : World} {b off n cap : Nat} {l : List UInt8} (h : IsB w (.slice (some ⟨b, off, none⟩) n cap) l) (j k : Nat) (hjk : j + k ≤ l.length) :
    IsB w (.slice (some ⟨b, off + j, none⟩) k (cap - j)) ((l.drop j).take k) := by
  have := IsB.sub (x := some ⟨b, off, none⟩) h hjk
  simpa [add_lit] using this

theorem slice_lh_B {P : Program} {w : World} {v : Value} {l : List UInt8} (hv : IsB w v l) (T U : TypeId) (ht : P.underlying T = some (.slice U)) (hs : (P.info? U).map (·.size) = some 1) (lo hi : Nat) (h1 : lo ≤ hi) (h2 : hi ≤ l.length) :
    ∃ sv, (∀ W, (Instr.slice T v (some (.int .i64 (lo : Int))) (some (.int .i64 (hi : Int))) none).run P W = .ok sv W) ∧ IsB w sv ((l.drop lo).take (hi - lo)) := by
  obtain ⟨i, hi1, hi2⟩ := Option.map_eq_some_iff.1 hs
  obtain ⟨a, cap, rfl, k1, k2, k0, k3⟩ := hv
  have ht' : P.underlying T = some (.slice (P.elem T)) := by simp [Program.elem, ht]
  have he : P.elem T = U := by simp [Program.elem, ht]
  have hsz : ∀ W, (sizeOf U).run P W = .ok 1 W := fun W => by simp [sizeOf, typeInfo, hi1, hi2]
  refine ⟨sliced a lo hi cap 1, fun W => ?_, ?_⟩
  · rw [run_slice_lh W T _ _ _ ht' .i64 .i64 _ _ (by omega) (by omega) (by omega), he, hsz]
    simp [Result.andThen]
  · have hlen : ((l.drop lo).take (hi - lo)).length = hi - lo := by simp; omega
    unfold sliced
    refine ⟨_, _, by rw [hlen], by rw [hlen]; omega, by omega, fun hx => ?_, ?_⟩
    · split at hx
      · omega
      · have : a = none := by simpa using hx
        rw [k0 this]
        omega
    · rw [hlen]
      by_cases h0 : hi - lo = 0
      · exact .inl h0
      · rcases k3 with k3 | ⟨b, off, rfl, hc⟩
        · omega
        · rw [if_neg (by omega)]
          refine .inr ⟨b, off + lo, by simp [add_lit], fun i hi => ?_⟩
          rw [show off + lo + i = off + (lo + i) from by omega, hc (lo + i) (by omega)]
          congr 2
          simp only [List.getD_eq_getElem?_getD, List.getElem?_take, if_pos hi, List.getElem?_drop]
theorem slice_h_B {P : Program} {w : World} {v : Value} {l : List UInt8} (hv : IsB w v l) (T U : TypeId) (ht : P.underlying T = some (.slice U)) (hs : (P.info? U).map (·.size) = some 1) (hi : Nat) (h2 : hi ≤ l.length) :
    ∃ sv, (∀ W, (Instr.slice T v none (some (.int .i64 (hi : Int))) none).run P W = .ok sv W) ∧ IsB w sv (l.take hi) := by
  obtain ⟨i, hi1, hi2⟩ := Option.map_eq_some_iff.1 hs
  have HV := hv
  obtain ⟨a, cap, rfl, k1, k2, k0, k3⟩ := hv
  have ht' : P.underlying T = some (.slice (P.elem T)) := by simp [Program.elem, ht]
  have he : P.elem T = U := by simp [Program.elem, ht]
  have hsz : ∀ W, (sizeOf U).run P W = .ok 1 W := fun W => by simp [sizeOf, typeInfo, hi1, hi2]
  refine ⟨.slice a hi cap, fun W => ?_, HV.take h2⟩
  rw [run_slice_h W T _ _ _ ht' .i64 _ (by omega) (by omega), he, hsz]
  by_cases hc0 : cap = 0
  · simp [Result.andThen, sliced, hc0]
  · have hadd : (a.map fun x => x.add 0) = a := by cases a <;> simp [Addr.add]
    simp [Result.andThen, sliced, hc0, hadd]
theorem len_B {P : Program} {w : World} {v : Value} {l : List UInt8} (hv : IsB w v l) {n : Nat} (hn : l.length = n) (T ty U : TypeId) (ht : P.underlying T = some (.slice U)) (W : World) : (Builtin.len_ #[T] ty #[v]).run P W = .ok (.int .i64 (n : Int)) W := by
  obtain ⟨a, cap, rfl, k1, k2, k0, k3⟩ := hv
  subst hn
  have ht' : P.underlying T = some (.slice (P.elem T)) := by simp [Program.elem, ht]
  exact run_len_slice (P := P) W T ty a l.length cap ht'

theorem ownsRow_slice {w : World} {base : Nat} {e : TypeId} {size : Nat} {v : Value} {n : Nat} {xs : List Value} (h : w.ownsRow base e size v n xs) : ∃ x c, v = .slice x n c := by
  rcases h.2 with ⟨rfl, rfl⟩ | ⟨g, cap, cur, rfl, _⟩
  · exact ⟨_, _, rfl⟩
  · exact ⟨_, _, rfl⟩
theorem clone_S (v : Value) (l : List UInt8) (w : World) (n : Nat) (hv : IsB w v l) (hl : l.length ≤ 1099511627776) (hn : l.length = n) :
    Calls Try.prog 33 #[v] w fun e w' =>
      ∃ x c, e = .returned (.slice x n c) ∧ w'.ownsRow w.heap.size 5 1 (.slice x n c) n (bvs l) ∧ Below w.heap.size w w' := by
  refine (clone_any v l w hv hl).mono ?_
  rintro e w' ⟨v', rfl, hown, hb⟩
  rw [hn] at hown
  obtain ⟨x, c, rfl⟩ := ownsRow_slice hown
  exact ⟨x, c, rfl, hown, hb⟩
theorem formedB_no {l : List UInt8} (h : ¬ (fld l 0 4 = 1313162572 ∧ fld l 4 4 ≤ 1 ∧ fld l 28 4 = 0 ∧ fld l 20 4 ≤ 4096 ∧ (fld l 4 4 = 1 → fld l 20 4 = 0))) : formedB l = false := decide_eq_false h
theorem zeroB_fld (l : List UInt8) (a k : Nat) : zeroB ((l.drop a).take k) = decide (fld l a k = 0) := zeroB_num _

end Go.Proofs.Ytncfdkkekaninaa
