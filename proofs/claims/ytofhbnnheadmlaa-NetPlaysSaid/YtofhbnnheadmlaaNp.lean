/- Package net by contracts: its small functions. -/
import Derived.Test.YtofhbnnheadmlaaNt
import Derived.Test.YtofhbnnheadmlaaNeedleeF
import Derived.StillTailTactics
import Derived.Deep.CutRange
import Derived.RegionTactic
import Derived.ProofKit
import Derived.Deep.RegionHeld3
import Derived.Deep.RegionWith
set_option linter.unusedVariables false
set_option linter.unusedSimpArgs false
namespace Go.Proofs.Ytofhbnnheadmlaa
open Go.RowKit Go.Cor

theorem below_new15 (w : World) (o : Obj) : Below w.heap.size w (w.alloc o) := (Below.refl _ w).alloc (Nat.le_refl _) o
theorem nnew_any (w : World) :
    Calls Try.prog 8 #[] w fun e w' => e = .returned (.pointer (some ⟨w.heap.size, 0, none⟩)) ∧ NtAt w' w.heap.size (.slice none 0 0) [] (.map none) [] 0 ∧ Below w.heap.size w w' := by
  have HB := Lib.hid (below_new15 w (.cells #[.slice none 0 0, .map none] 66))
  have HX := Lib.hid (Blk.new w #[.slice none 0 0, .map none] 66)
  go_enter Try.func8, Try.ntmps8
  go_wp2
  go_ret
  exact ⟨rfl, ⟨HX.out, World.ownsRow_nil _ _ _ _, by simp [Value.ownBlock], (fun x hx => by cases hx), .inl ⟨rfl, fun _ _ _ _ => rfl⟩, (fun b h => by cases h)⟩, HB.out⟩
theorem nplace_any (a : Int) (w : World) :
    Calls Try.prog 30 #[.int .i64 a] w fun e w' => e = .returned (.bool (placeB a)) ∧ w = w' := by
  by_cases h : 0 ≤ a
  · by_cases h2 : a ≤ 255
    · rw [show placeB a = true from decide_eq_true ⟨h, h2⟩]
      go_enter Try.func30, Try.ntmps30
      go_wp2
      go_ret
      exact ⟨rfl, rfl⟩
    · rw [show placeB a = false from decide_eq_false (fun h => h2 h.2)]
      go_enter Try.func30, Try.ntmps30
      go_wp2
      go_ret
      exact ⟨rfl, rfl⟩
  · rw [show placeB a = false from decide_eq_false (fun h' => h h'.1)]
    go_enter Try.func30, Try.ntmps30
    go_wp2
    go_ret
    exact ⟨rfl, rfl⟩
theorem nof_le (a b : Int) (w : World) (h : a ≤ b) :
    Calls Try.prog 31 #[.int .i64 a, .int .i64 b] w fun e w' => e = .returned (.agg #[.int .i64 a, .int .i64 b]) ∧ Below w.heap.size w w' := by
  have h1 : (if b < a then b else a) = a := by split <;> omega
  have h2 : (if a < b then b else a) = b := by split <;> omega
  go_enter Try.func31, Try.ntmps31
  go_wp2
  exact bodyPost_ret (v := .agg #[.int .i64 a, .int .i64 b]) (by simp [results, Try.results31, go_sem]) rfl ⟨rfl, below_new15 _ _⟩
theorem nof_gt (a b : Int) (w : World) (h : ¬ a ≤ b) :
    Calls Try.prog 31 #[.int .i64 a, .int .i64 b] w fun e w' => e = .returned (.agg #[.int .i64 b, .int .i64 a]) ∧ Below w.heap.size w w' := by
  have h1 : (if b < a then b else a) = b := by split <;> omega
  have h2 : (if a < b then b else a) = a := by split <;> omega
  go_enter Try.func31, Try.ntmps31
  go_wp2
  exact bodyPost_ret (v := .agg #[.int .i64 b, .int .i64 a]) (by simp [results, Try.results31, go_sem]) rfl ⟨rfl, below_new15 _ _⟩
theorem nof_any (a b : Int) (w : World) :
    Calls Try.prog 31 #[.int .i64 a, .int .i64 b] w fun e w' => e = .returned (.agg #[.int .i64 (lo2 a b), .int .i64 (hi2 a b)]) ∧ Below w.heap.size w w' := by
  unfold lo2 hi2
  by_cases h : a ≤ b
  · rw [if_pos h, if_pos h]; exact nof_le a b w h
  · rw [if_neg h, if_neg h]; exact nof_gt a b w h
theorem CutsAt.look {w : World} {mv : Value} {c : List (Int × Int)} {K : Nat} (h : CutsAt w mv c K) {a b : Int} (ha : wfI a) (hb : wfI b) :
    (Instr.lookup 64 mv (.agg #[.int .i64 (lo2 a b), .int .i64 (hi2 a b)]) true).run Try.prog w = .ok (.tuple #[.agg #[], .bool (apartP c a b)]) w := by
  rcases h with ⟨rfl, h⟩ | ⟨g, D, rfl, h, hD⟩
  · rw [h a b ha hb]
    exact Go.Maps.look_nil true Try.lawPr Try.underlying64 (Try.zeroUn w) (keyOf_2 ha hb)
  · obtain ⟨v, p, h1, h2⟩ := h.look_ok Try.lawPr Try.underlying64 (Try.zeroUn w) (zd := .agg []) (zp := []) unitElem_mk (keyOf_2 ha hb)
    obtain ⟨rfl, _⟩ := unitElem_inv h2
    rw [← hD.2 a b ha hb]
    exact h1
theorem napart_nil (a b : Int) (w : World) :
    Calls Try.prog 16 #[.pointer none, .int .i64 a, .int .i64 b] w fun e w' => e = .returned (.bool false) ∧ Below w.heap.size w w' := by
  go_enter Try.func16, Try.ntmps16
  go_wp2
  go_ret
  exact ⟨rfl, Below.refl _ _⟩
set_option maxRecDepth 100000 in
set_option maxHeartbeats 1000000 in
theorem napart_at {g : Nat} {pv : Value} {ps : List (Msg × Value)} {mv : Value} {c : List (Int × Int)} {K : Nat} (a b : Int) (w : World) (h : NtAt w g pv ps mv c K) (ha : wfI a) (hb : wfI b) :
    Calls Try.prog 16 #[.pointer (some ⟨g, 0, none⟩), .int .i64 a, .int .i64 b] w fun e w' => e = .returned (.bool (apartP c a b)) ∧ Below w.heap.size w w' := by
  obtain ⟨R, hR⟩ : ∃ R, apartP c a b = R := ⟨_, rfl⟩
  have k1 : w.cell? ⟨g, 1, none⟩ = some mv := h.nblk.cell 1 rfl
  have hL := fun wx (hx : Below w.heap.size w wx) => (h.below hx (Nat.le_refl _)).ncut.look ha hb
  have hC := fun wx (hx : Below w.heap.size w wx) => (show wx.cell? ⟨g, 1, none⟩ = some mv from (h.below hx (Nat.le_refl _)).nblk.cell 1 rfl)
  rw [hR] at hL ⊢
  have HL := Lib.hid hL
  have HC := Lib.hid hC
  have S0 : w.drew.cell? ⟨g, 1, none⟩ = some mv ∧ Below w.heap.size w w.drew ∧ (Instr.lookup 64 mv (.agg #[.int .i64 (lo2 a b), .int .i64 (hi2 a b)]) true).run Try.prog w.drew = .ok (.tuple #[.agg #[], .bool R]) w.drew := ⟨k1, (Below.refl _ w).drew, hL _ (Below.refl _ w).drew⟩
  have SB : ∀ wx wy : World, (wx.cell? ⟨g, 1, none⟩ = some mv ∧ Below w.heap.size w wx ∧ (Instr.lookup 64 mv (.agg #[.int .i64 (lo2 a b), .int .i64 (hi2 a b)]) true).run Try.prog wx = .ok (.tuple #[.agg #[], .bool R]) wx) → Below wx.heap.size wx wy → wy.cell? ⟨g, 1, none⟩ = some mv ∧ Below w.heap.size w wy ∧ (Instr.lookup 64 mv (.agg #[.int .i64 (lo2 a b), .int .i64 (hi2 a b)]) true).run Try.prog wy = .ok (.tuple #[.agg #[], .bool R]) wy := fun wx wy h1 h2 =>
    have h3 := h1.2.1.trans (h2.mono h1.2.1.size)
    ⟨HC.out _ h3, h3, HL.out _ h3⟩
  clear h ha hb hR hL hC
  go_enter Try.func16, Try.ntmps16
  go_upto_region 3 with fail
  go_region_held3 (fun wx => wx.cell? ⟨g, 1, none⟩ = some mv ∧ Below w.heap.size w wx ∧ (Instr.lookup 64 mv (.agg #[.int .i64 (lo2 a b), .int .i64 (hi2 a b)]) true).run Try.prog wx = .ok (.tuple #[.agg #[], .bool R]) wx) (first | exact S0 | assumption | exact SB _ _ (by assumption) (below_new15 _ _) | exact SB _ _ (by assumption) (by assumption)) (first | (go_at_call 31; refine (nof_any a b _).mono ?_; rintro e wo ⟨rfl, hbo⟩))
  all_goals
    go_wp2_with fail
    go_ret
    first
      | exact ⟨rfl, (show (wo.alloc (.cells #[] 79)).cell? ⟨g, 1, none⟩ = some mv ∧ Below w.heap.size w (wo.alloc (.cells #[] 79)) ∧ (Instr.lookup 64 mv (.agg #[.int .i64 (lo2 a b), .int .i64 (hi2 a b)]) true).run Try.prog (wo.alloc (.cells #[] 79)) = .ok (.tuple #[.agg #[], .bool R]) (wo.alloc (.cells #[] 79)) from by assumption).2.1⟩
      | exact ⟨rfl, (show wo.cell? ⟨g, 1, none⟩ = some mv ∧ Below w.heap.size w wo ∧ (Instr.lookup 64 mv (.agg #[.int .i64 (lo2 a b), .int .i64 (hi2 a b)]) true).run Try.prog wo = .ok (.tuple #[.agg #[], .bool R]) wo from by assumption).2.1⟩

end Go.Proofs.Ytofhbnnheadmlaa
