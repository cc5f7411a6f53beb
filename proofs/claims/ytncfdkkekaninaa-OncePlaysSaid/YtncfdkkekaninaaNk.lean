/- The map of what is cut (layer 15): keyed by two places, the lesser one first. -/
import Derived.Test.YtncfdkkekaninaaChecked
import Derived.Test.YtncfdkkekaninaaNetp
import Derived.Test.YtncfdkkekaninaaBlk
import Derived.Maps.OwnSet
import Derived.DeepKeys5
import Derived.WalkKit
set_option linter.unusedVariables false
set_option linter.unusedSimpArgs false
namespace Go.Proofs.Ytncfdkkekaninaa
open Go.RowKit Go.Cor

theorem Try.laidOut15 : laidOutB Try.prog = true := by kernel_rfl
theorem law_struct {P : Program} {k : TypeId} {fs : Array Field} (hl : laidOutB P = true) (hr : k < P.types.size) (hk : P.keyTypeAt 2 k = true) (h : P.underlying k = some (.struct fs)) : Go.Maps.Keyed P k :=
  Go.Maps.Keyed.of_law (deep_law_laid hl (m := 2) (by omega) hr hk (by rw [h]))
theorem Try.coIntP : Try.prog.cellsOf 3 = 1 := by kernel_rfl
/-- A number that a place's slot can hold. -/
def wfI (a : Int) : Prop := (Lit.int .i64 a).wf = true
theorem wfI_of {a : Int} (h1 : -9223372036854775808 ≤ a) (h2 : a ≤ 9223372036854775807) : wfI a := WalkArith.wf_i64 ⟨h1, h2⟩
/-- What a key reads as. -/
def klit (a b : Int) : Lit := .string (keyBytes [.int .i64 a, .int .i64 b])
theorem keyLits_two {P : Program} {k : TypeId} {f0 f1 : Field} {n : Nat} {a b : Int} (hk : P.underlying k = some (.struct #[f0, f1])) (hn : (#[f0, f1] : Array Field).all (·.name != "_") = true) (hc : P.cellsOf k = 2)
    (t0 : P.underlying f0.type = some (.int .i64)) (t1 : P.underlying f1.type = some (.int .i64)) (c0 : P.cellsOf f0.type = 1) (c1 : P.cellsOf f1.type = 1) (o0 : f0.offset = 0) (o1 : f1.offset = 1) (ha : wfI a) (hb : wfI b) :
    P.keyLits (n + 2) k [.int .i64 a, .int .i64 b] = some [.int .i64 a, .int .i64 b] := by
  unfold wfI at ha hb
  have e0 : P.keyLits (n + 1) f0.type [.int .i64 a] = some [.int .i64 a] := by
    unfold Program.keyLits
    rw [t0]
    simp [ha]
  have e1 : P.keyLits (n + 1) f1.type [.int .i64 b] = some [.int .i64 b] := by
    unfold Program.keyLits
    rw [t1]
    simp [hb]
  unfold Program.keyLits
  rw [hk]
  simp [hc, c0, c1, o0, o1, e0, e1]
  simpa using hn
theorem keyOf_two {P : Program} {k : TypeId} {f0 f1 : Field} {a b : Int} (hr : k < P.types.size) (hkt : P.keyType k = true) (hk : P.underlying k = some (.struct #[f0, f1])) (hn : (#[f0, f1] : Array Field).all (·.name != "_") = true) (hc : P.cellsOf k = 2)
    (t0 : P.underlying f0.type = some (.int .i64)) (t1 : P.underlying f1.type = some (.int .i64)) (c0 : P.cellsOf f0.type = 1) (c1 : P.cellsOf f1.type = 1) (o0 : f0.offset = 0) (o1 : f1.offset = 1) (ha : wfI a) (hb : wfI b) :
    keyOf P k (.agg #[.int .i64 a, .int .i64 b]) = some (klit a b) := by
  obtain ⟨n, hsz⟩ : ∃ n, P.types.size + 1 = n + 2 := ⟨P.types.size - 1, by have h0 : 0 < P.types.size := Nat.lt_of_le_of_lt (Nat.zero_le _) hr; omega⟩
  have h := keyLits_two (n := n) hk hn hc t0 t1 c0 c1 o0 o1 ha hb
  unfold keyOf
  rw [hk, hsz]
  simp [hkt, Value.formed, hk, hc, Value.cells, h, klit]
/-- Two places, the lesser one first. -/
def lo2 (a b : Int) : Int := if a ≤ b then a else b
def hi2 (a b : Int) : Int := if a ≤ b then b else a
theorem wf_lo2 {a b : Int} (ha : wfI a) (hb : wfI b) : wfI (lo2 a b) := by unfold lo2; split <;> assumption
theorem wf_hi2 {a b : Int} (ha : wfI a) (hb : wfI b) : wfI (hi2 a b) := by unfold hi2; split <;> assumption
theorem pairB_lohi (a b x y : Int) : pairB (a, b) x y = decide (lo2 a b = lo2 x y ∧ hi2 a b = hi2 x y) := by
  unfold pairB lo2 hi2
  dsimp only
  rw [decide_eq_decide]
  split <;> split <;> omega
def kl2 (a b : Int) : Lit := klit (lo2 a b) (hi2 a b)
/-- The map's keys are the pairs that are cut. -/
def CutsD (D : DataW Unit) (c : List (Int × Int)) : Prop := Go.Maps.IsMap D ∧ ∀ a b, wfI a → wfI b → Go.Maps.has D (kl2 a b) = apartP c a b
theorem CutsD.empty {c : List (Int × Int)} (h : ∀ a b, wfI a → wfI b → apartP c a b = false) : CutsD (.map []) c := ⟨Go.Maps.isMap_empty, fun a b ha hb => by rw [h a b ha hb]; rfl⟩
theorem apart_del {c : List (Int × Int)} {a b x y : Int} : apartP (cutP c a b false) x y = if pairB (a, b) x y = true then false else apartP c x y := by
  split
  · rename_i hp
    rw [pairB_lohi, decide_eq_true_iff] at hp
    have h2 : apartP (cutP c a b false) x y = apartP (cutP c a b false) a b := by
      unfold apartP
      congr 1
      funext p
      unfold pairB
      rw [decide_eq_decide]
      unfold lo2 hi2 at hp
      split at hp <;> split at hp <;> omega
    rw [h2, apartP_cut]
  · rename_i hp
    exact apartP_other c a b x y false (by simpa using hp)
end Go.Proofs.Ytncfdkkekaninaa
