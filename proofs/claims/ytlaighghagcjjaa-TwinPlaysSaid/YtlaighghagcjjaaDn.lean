/- Package dirs' object in memory, and the small functions by contracts. -/
import Derived.Test.YtlaighghagcjjaaDm
import Derived.Test.YtlaighghagcjjaaBlk
import Derived.Test.YtlaighghagcjjaaErrs
import Derived.Test.YtlaighghagcjjaaPack
import Derived.Lib.SliceRun
import Derived.StillTailTactics
import Derived.Deep.CutRange
import Derived.RegionTactic
import Derived.ProofKit
import Derived.Deep.RegionHeld3
import Derived.Deep.RegionWith
import Derived.Deep.QuietTactic
import Derived.BigQuiet
namespace Go.Proofs.Ytlaighghagcjjaa
open Go.RowKit Go.Cor
set_option linter.unusedVariables false
set_option linter.unusedSimpArgs false

theorem isX_of_B19 {w : World} {v : Value} {l : List UInt8} (h : IsB w v l) : IsX w 1 v l.length (bvs l) := by
  obtain ⟨a, cap, rfl, h1, h2, h0, h3⟩ := h
  refine ⟨a, cap, rfl, h1, h2, by simp, h0, ?_⟩
  rcases h3 with h3 | ⟨b, off, rfl, hc⟩
  · exact .inl h3
  · refine .inr ⟨b, off, rfl, fun j hj => ?_⟩
    rw [Nat.mul_one] at hj
    rw [hc j hj, bvs_get hj]
theorem len_B19 {P : Program} {w : World} {v : Value} {l : List UInt8} (hv : IsB w v l) (T ty U : TypeId) (ht : P.underlying T = some (.slice U)) (W : World) : (Builtin.len_ #[T] ty #[v]).run P W = .ok (.int .i64 (l.length : Int)) W := len_X (isX_of_B19 hv) T ty U ht W
abbrev erc (k : Int) : Value := .iface 79 (.int .i64 k)
/-- A code as an error, or none. -/
def derr (k : Nat) : Value := if k = 0 then .nilIface else erc (k : Int)
theorem derr_zero : derr 0 = .nilIface := rfl
theorem derr_pos {k : Nat} (h : k ≠ 0) : derr k = erc (k : Int) := if_neg h
theorem below_drewN19 {B : Nat} {w w' : World} (h : Below B w w') (n : Nat) : Below B w (w'.drewN n) := ⟨h.os, h.tape, h.output, h.size, h.block⟩
theorem below_new19 (w : World) (o : Obj) : Below w.heap.size w (w.alloc o) := (Below.refl _ w).alloc (Nat.le_refl _) o
/-- A map in memory: its box g, its row; S: its blocks, behind B. -/
def Mp (w : World) (B g : Nat) (S : Nat → Prop) (L : List En) : Prop :=
  ∃ v, Blk w g #[v] 92 ∧ w.ownsRow B 77 6 v L.length (row ecl L) ∧ v.ownBlock ≠ some g ∧ S g ∧ (∀ k, v.ownBlock = some k → S k) ∧ ∀ k, S k → B ≤ k ∧ k < w.heap.size
section
variable {w w' : World} {B g : Nat} {S : Nat → Prop} {L : List En}
theorem Mp.kept {T : Nat → Prop} (h : Mp w B g S L) (hk : Kept T w w') (hT : ∀ k, S k → ¬ T k) : Mp w' B g S L := by
  obtain ⟨v, h1, h2, h3, h4, h5, h6⟩ := h
  exact ⟨v, h1.kept hk (hT g h4), ownsRow_kept h2 hk (fun k e => hT k (h5 k e)), h3, h4, h5, fun k hk' => ⟨(h6 k hk').1, Nat.lt_of_lt_of_le (h6 k hk').2 hk.size⟩⟩
theorem Mp.below (h : Mp w B g S L) (hb : Below w.heap.size w w') : Mp w' B g S L :=
  h.kept (T := fun _ => False) (Kept.of_below hb (Nat.le_refl _)) fun _ _ h => h
theorem Mp.lt (h : Mp w B g S L) {k : Nat} (hk : S k) : B ≤ k ∧ k < w.heap.size := by
  obtain ⟨v, h1, h2, h3, h4, h5, h6⟩ := h
  exact h6 k hk
end
/-- What a call of a map leaves: the map anew, and nothing turned but it. -/
structure MpT (w : World) (B g : Nat) (S : Nat → Prop) (L : List En) (w' : World) : Prop where
  out : ∃ S', Mp w' B g S' L ∧ (∀ k, S' k → S k ∨ w.heap.size ≤ k) ∧ Kept S w w'


set_option maxRecDepth 100000 in
set_option maxHeartbeats 1000000 in
theorem dnode (n : Int) (w : World) : Calls Try.prog 50 #[.int .i64 n] w fun e w' => e = .returned (.bool (decide (near n))) ∧ w = w' := by
  by_cases h0 : 0 ≤ n
  · by_cases h1 : n ≤ 255
    · rw [show decide (near n) = true from decide_eq_true ⟨h0, by omega⟩]
      go_enter Try.func50, Try.ntmps50
      go_wp2
      go_ret
      exact ⟨rfl, rfl⟩
    · rw [show decide (near n) = false from decide_eq_false (fun h => by unfold near at h; omega)]
      go_enter Try.func50, Try.ntmps50
      go_wp2
      go_ret
      exact ⟨rfl, rfl⟩
  · rw [show decide (near n) = false from decide_eq_false (fun h => by unfold near at h; omega)]
    go_enter Try.func50, Try.ntmps50
    go_wp2
    go_ret
    exact ⟨rfl, rfl⟩
/-- Ints as cells. -/
def ints (l : List Int) : List Value := l.map (Value.int .i64)
theorem ints_get {l : List Int} {i : Nat} (h : i < l.length) : (ints l)[i]? = some (.int .i64 (l.getD i 0)) := by
  simp [ints, List.getElem?_map, List.getElem?_eq_getElem h, List.getD_eq_getElem?_getD]
theorem Try.sizeInt19 : (Try.prog.info? 3).map (·.size) = some 1 := by kernel_rfl
set_option maxHeartbeats 1000000 in
theorem dindex (v : Value) (l : List Int) (x : Int) (w : World) (hv : IsX w 1 v l.length (ints l)) (hl : l.length ≤ 1048576) :
    Calls Try.prog 54 #[v, .int .i64 x] w fun e w' => (∃ r : Int, e = .returned (.int .i64 r) ∧ (0 ≤ r ↔ x ∈ l)) ∧ w = w' := by
  have HV := Lib.hid hv
  obtain ⟨N, hN⟩ : ∃ N, l.length = N := ⟨_, rfl⟩
  have hlen := fun W => len_X (P := Try.prog) hv 54 3 _ Try.underlying54 W
  rw [hN] at hlen hl
  have HN := Lib.hid hN
  clear hv hN
  go_enter Try.func54, Try.ntmps54
  go_wp2_with fail
  go_loopw [8] (fun c wr => ∃ i : Nat, i ≤ N ∧ c = .int .i64 i ∧ wr = w ∧ Hid (∀ j, j < i → l.getD j 0 ≠ x)) (fun c _ => N - (intOf c).toNat)
  case atStart => exact ⟨0, Nat.zero_le _, rfl, rfl, Lib.hid (fun j hj => absurd hj (Nat.not_lt_zero j))⟩
  case round =>
    obtain ⟨i, hiN, rfl, rfl, HJ⟩ := hrel
    by_cases hlt : i < N
    · obtain ⟨b, o, hidx, _, hcell⟩ := indexAt_X HV.out 54 3 Try.underlying54 Try.sizeInt19 i (by rw [HN.out]; exact hlt)
      have hc : wr.cell? ⟨b, o, none⟩ = some (.int .i64 (l.getD i 0)) := by
        have h0 := hcell 0 (by omega)
        rw [Nat.mul_one, Nat.add_zero, Nat.add_zero, ints_get (by rw [HN.out]; exact hlt)] at h0
        exact h0
      obtain ⟨y, hy⟩ : ∃ y, l.getD i 0 = y := ⟨_, rfl⟩
      have HY := Lib.hid hy
      rw [hy] at hc
      clear hcell hy
      by_cases hxy : x = y
      · have hm : x ∈ l := by
          rw [hxy, ← HY.out]
          have h1 : i < l.length := by rw [HN.out]; exact hlt
          rw [List.getD_eq_getElem?_getD, List.getElem?_eq_getElem h1]
          exact List.getElem_mem h1
        go_wp2
        go_ret
        exact ⟨⟨_, rfl, fun _ => hm, fun _ => by omega⟩, rfl⟩
      · go_wp2
        go_roundw
        case rel => exact ⟨i + 1, by omega, by go_num, by trivial, Lib.hid (fun j hj => by
          by_cases e : j = i
          · rw [e, HY.out]; exact fun h => hxy h.symm
          · exact HJ.out j (by omega))⟩
        case measure => simp [intOf]; omega
    · obtain rfl : i = N := by omega
      have hm : ¬ x ∈ l := fun h => by
        obtain ⟨j, hj⟩ := List.getElem?_of_mem h
        have h1 := (List.getElem?_eq_some_iff.1 hj).1
        exact HJ.out j (by rw [← HN.out]; exact h1) (by rw [List.getD_eq_getElem?_getD, hj]; rfl)
      go_wp2
      go_ret
      exact ⟨⟨-1, rfl, fun h => absurd h (by omega), fun h => absurd h hm⟩, rfl⟩
theorem dcontains (v : Value) (l : List Int) (x : Int) (w : World) (hv : IsX w 1 v l.length (ints l)) (hl : l.length ≤ 1048576) :
    Calls Try.prog 51 #[v, .int .i64 x] w fun e w' => e = .returned (.bool (decide (x ∈ l))) ∧ w = w' := by
  have HI := Lib.hid (dindex v l x w hv hl)
  clear hv hl
  go_enter Try.func51, Try.ntmps51
  go_wp2_with fail
  refine HI.out.mono ?_
  rintro e w' ⟨⟨r, rfl, hr⟩, rfl⟩
  have hd : decide (0 ≤ r) = decide (x ∈ l) := by
    by_cases h : 0 ≤ r
    · rw [decide_eq_true h, decide_eq_true (hr.1 h)]
    · rw [decide_eq_false h, decide_eq_false (fun hx => h (hr.2 hx))]
  go_wp2
  go_ret
  refine ⟨?_, rfl⟩
  rw [← hd]
  rfl

theorem dnew (w : World) : Calls Try.prog 41 #[] w fun e w' => ∃ g S, e = .returned (.pointer (some ⟨g, 0, none⟩)) ∧ Mp w' w.heap.size g S [] ∧ Below w.heap.size w w' := by
  have HX := Lib.hid (Blk.new w #[.slice none 0 0] 92)
  have HB := Lib.hid ((Below.refl w.heap.size w).alloc (Nat.le_refl _) (.cells #[.slice none 0 0] 92))
  go_enter Try.func41, Try.ntmps41
  go_wp2
  go_ret
  refine ⟨w.heap.size, fun k => k = w.heap.size, rfl, ⟨.slice none 0 0, HX.out, World.ownsRow_nil _ _ _ _, by simp [Value.ownBlock], rfl, (fun k h => by simp [Value.ownBlock] at h), (fun k e => ⟨by omega, by rw [e]; exact HX.out.lt⟩)⟩, HB.out⟩
theorem dents_nil (w : World) : Calls Try.prog 32 #[.pointer none] w fun e w' => e = .returned (.slice none 0 0) ∧ w = w' := by
  go_enter Try.func32, Try.ntmps32
  go_wp2
  go_ret
  exact ⟨rfl, rfl⟩
theorem dents_any (g : Nat) (v : Value) (w : World) (h : w.cell? ⟨g, 0, none⟩ = some v) :
    Calls Try.prog 32 #[.pointer (some ⟨g, 0, none⟩)] w fun e w' => e = .returned v ∧ w = w' := by
  go_enter Try.func32, Try.ntmps32
  go_wp2
  go_ret
  exact ⟨rfl, rfl⟩
end Go.Proofs.Ytlaighghagcjjaa
