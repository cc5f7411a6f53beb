/- The statements of layer 3 (needle): one behind the other. -/
import Derived.Test.YtncfdkkekaninaaLaw03
import Derived.Deep.CutRange
set_option linter.unusedVariables false
set_option linter.unusedSimpArgs false
namespace Go.Proofs.Ytncfdkkekaninaa
open Go.RowKit Go.Cor

theorem slice_l_B {P : Program} {w : World} {v : Value} {l : List UInt8} (hv : IsB w v l) (T U : TypeId) (ht : P.underlying T = some (.slice U)) (hs : (P.info? U).map (·.size) = some 1) (lo : Nat) (h2 : lo ≤ l.length) :
    ∃ sv, (∀ W, (Instr.slice T v (some (.int .i64 (lo : Int))) none none).run P W = .ok sv W) ∧ IsB w sv (l.drop lo) := by
  obtain ⟨i, hi1, hi2⟩ := Option.map_eq_some_iff.1 hs
  obtain ⟨a, cap, rfl, k1, k2, k0, k3⟩ := hv
  have ht' : P.underlying T = some (.slice (P.elem T)) := by simp [Program.elem, ht]
  have he : P.elem T = U := by simp [Program.elem, ht]
  have hsz : ∀ W, (sizeOf U).run P W = .ok 1 W := fun W => by simp [sizeOf, typeInfo, hi1, hi2]
  refine ⟨sliced a lo l.length cap 1, fun W => ?_, ?_⟩
  · rw [run_slice_l W T _ _ _ ht' .i64 _ (by omega) (by omega), he, hsz]
    simp [Result.andThen]
  · have hlen : (l.drop lo).length = l.length - lo := by simp
    unfold sliced
    refine ⟨_, _, by rw [hlen], by rw [hlen]; omega, by omega, fun hx => ?_, ?_⟩
    · split at hx
      · omega
      · have : a = none := by simpa using hx
        rw [k0 this]
        omega
    · rw [hlen]
      by_cases h0 : l.length - lo = 0
      · exact .inl h0
      · rcases k3 with k3 | ⟨b, off, rfl, hc⟩
        · omega
        · rw [if_neg (by omega)]
          refine .inr ⟨b, off + lo, by simp [add_lit], fun i hi => ?_⟩
          rw [show off + lo + i = off + (lo + i) from by omega, hc (lo + i) (by omega)]
          congr 2
          simp only [List.getD_eq_getElem?_getD, List.getElem?_drop]

/-- All their bytes. -/
def catN : List Ndl → List UInt8
  | [] => []
  | n :: r => nbytes n ++ catN r
theorem catN_append (a b : List Ndl) : catN (a ++ b) = catN a ++ catN b := by
  induction a with
  | nil => rfl
  | cons n r ih => simp [catN, ih, List.append_assoc]
theorem catN_le {ns : List Ndl} (h : ∀ n ∈ ns, n.data.length ≤ 4096) : (catN ns).length ≤ 5000 * ns.length := by
  induction ns with
  | nil => simp [catN]
  | cons n r ih =>
    have h1 := ih (fun m hm => h m (List.mem_cons_of_mem _ hm))
    have h2 := h n (List.mem_cons_self ..)
    have h3 := padn_lt n.data.length
    simp only [catN, List.length_append, length_nbytes, List.length_cons]
    omega

theorem keep8l {wz wa : World} {b1 b2 o2 o3 o4 o5 : Nat} {u0 u1 u2 u3 t0 t1 t2 t3 : Value} (hb : Below wz.heap.size wz wa)
    (K : wz.cell? ⟨b1, 0, none⟩ = some u0 ∧ wz.cell? ⟨b1, 1, none⟩ = some u1 ∧ wz.cell? ⟨b1, 2, none⟩ = some u2 ∧ wz.cell? ⟨b1, 3, none⟩ = some u3 ∧ wz.cell? ⟨b2, o2, none⟩ = some t0 ∧ wz.cell? ⟨b2, o3, none⟩ = some t1 ∧ wz.cell? ⟨b2, o4, none⟩ = some t2 ∧ wz.cell? ⟨b2, o5, none⟩ = some t3) :
    wa.cell? ⟨b1, 0, none⟩ = some u0 ∧ wa.cell? ⟨b1, 1, none⟩ = some u1 ∧ wa.cell? ⟨b1, 2, none⟩ = some u2 ∧ wa.cell? ⟨b1, 3, none⟩ = some u3 ∧ wa.cell? ⟨b2, o2, none⟩ = some t0 ∧ wa.cell? ⟨b2, o3, none⟩ = some t1 ∧ wa.cell? ⟨b2, o4, none⟩ = some t2 ∧ wa.cell? ⟨b2, o5, none⟩ = some t3 := by
  have c : ∀ (p : Addr) u, wz.cell? p = some u → wa.cell? p = some u := fun p u h => (hb.cell (cell_lt h)).trans h
  obtain ⟨K0, K1, K2, K3, K4, K5, K6, K7⟩ := K
  exact ⟨c _ _ K0, c _ _ K1, c _ _ K2, c _ _ K3, c _ _ K4, c _ _ K5, c _ _ K6, c _ _ K7⟩

/-- v is a slice of needles. -/
def IsR (w : World) (v : Value) (ns : List Ndl) : Prop :=
  ∃ b off cap, v = .slice (some ⟨b, off, none⟩) ns.length cap ∧ ns.length ≤ cap ∧ cap ≤ maxLen ∧
    ∀ i n, ns[i]? = some n → n.fits ∧ ∃ dv, w.cell? ⟨b, off + i * 4, none⟩ = some (.int .u64 (n.key : Int)) ∧ w.cell? ⟨b, off + i * 4 + 1, none⟩ = some (.int .u32 (n.cookie : Int)) ∧ w.cell? ⟨b, off + i * 4 + 2, none⟩ = some (.bool n.gone) ∧ w.cell? ⟨b, off + i * 4 + 3, none⟩ = some dv ∧ IsB w dv n.data

end Go.Proofs.Ytncfdkkekaninaa
