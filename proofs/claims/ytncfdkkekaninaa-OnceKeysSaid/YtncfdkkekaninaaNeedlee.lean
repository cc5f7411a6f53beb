/- Package needle by contracts: Get, where there is a needle. -/
import Derived.Test.YtncfdkkekaninaaNeedled
import Derived.Deep.CutRange
set_option linter.unusedVariables false
set_option linter.unusedSimpArgs false
namespace Go.Proofs.Ytncfdkkekaninaa
open Go.RowKit Go.Cor

/-- The world behind the needle's own block. -/
abbrev gworld2 (w : World) : World := (gworld w).alloc (.cells #[.int .u64 0, .int .u32 0, .bool false, .slice none 0 0] 40)
theorem isB_gw2 {w : World} {v : Value} {l : List UInt8} (h : IsB (gworld w) v l) : IsB (gworld2 w) v l := h.mono ((Below.refl _ _).alloc (Nat.le_refl _) _) (Nat.le_refl _)
theorem gbox2 {w wc : World} (hb : Below (gworld2 w).drew.drew.heap.size (gworld2 w).drew.drew wc) :
    wc.cell? ⟨w.heap.size, 0, none⟩ = some (.int .u64 0) ∧ wc.cell? ⟨w.heap.size, 1, none⟩ = some (.int .u32 0) ∧ wc.cell? ⟨w.heap.size, 2, none⟩ = some (.bool false) ∧ wc.cell? ⟨w.heap.size, 3, none⟩ = some (.slice none 0 0) ∧
    wc.cell? ⟨w.heap.size + 1, 0, none⟩ = some (.int .u64 0) ∧ wc.cell? ⟨w.heap.size + 1, 1, none⟩ = some (.int .u32 0) ∧ wc.cell? ⟨w.heap.size + 1, 2, none⟩ = some (.bool false) ∧ wc.cell? ⟨w.heap.size + 1, 3, none⟩ = some (.slice none 0 0) ∧
    (∀ o, wc.frozen? ⟨w.heap.size, o, none⟩ = false) ∧ (∀ o, wc.frozen? ⟨w.heap.size + 1, o, none⟩ = false) ∧ w.heap.size + 1 < wc.heap.size := by
  have hs : (gworld2 w).drew.drew.heap.size = w.heap.size + 2 := by show (gworld2 w).heap.size = _; simp
  have c : ∀ b o, b < w.heap.size + 2 → wc.cell? ⟨b, o, none⟩ = (gworld2 w).cell? ⟨b, o, none⟩ := fun b o h => hb.cell (p := ⟨b, o, none⟩) (by rw [hs]; exact h)
  have f : ∀ b o, b < w.heap.size + 2 → wc.frozen? ⟨b, o, none⟩ = (gworld2 w).frozen? ⟨b, o, none⟩ := fun b o h => hb.frozen (p := ⟨b, o, none⟩) (by rw [hs]; exact h)
  refine ⟨?_, ?_, ?_, ?_, ?_, ?_, ?_, ?_, fun o => ?_, fun o => ?_, ?_⟩
  any_goals (rw [c _ _ (by omega)]; go_simp)
  · rw [f _ _ (by omega)]
    go_simp
  · rw [f _ _ (by omega)]
    go_simp
  · have := hb.size
    omega

theorem isB_zalloc {w : World} {v : Value} {l : List UInt8} (h : IsB w v l) : IsB (w.alloc (.cells #[.int .u64 0, .int .u32 0, .bool false, .slice none 0 0] 40)) v l := h.mono ((Below.refl _ _).alloc (Nat.le_refl _) _) (Nat.le_refl _)
/-- What the needle's own block holds, and the result's. -/
def GotBox (w : World) (l : List UInt8) (d k c : Nat) (g : Bool) (p : Value) (wx : World) : Prop :=
  ∃ b xc cc, p = .pointer (some ⟨b, 0, none⟩) ∧ wx.cell? ⟨b, 0, none⟩ = some (.int .u64 (k : Int)) ∧ wx.cell? ⟨b, 1, none⟩ = some (.int .u32 (c : Int)) ∧ wx.cell? ⟨b, 2, none⟩ = some (.bool g) ∧ wx.cell? ⟨b, 3, none⟩ = some (.slice xc d cc) ∧
    wx.ownsRow (w.heap.size + 1) 5 1 (.slice xc d cc) d (bvs l) ∧
    wx.cell? ⟨w.heap.size, 0, none⟩ = some (.int .u64 0) ∧ wx.cell? ⟨w.heap.size, 1, none⟩ = some (.int .u32 0) ∧ wx.cell? ⟨w.heap.size, 2, none⟩ = some (.bool false) ∧ wx.cell? ⟨w.heap.size, 3, none⟩ = some (.slice none 0 0) ∧
    (∀ o, wx.frozen? ⟨w.heap.size, o, none⟩ = false) ∧ Below w.heap.size w wx ∧ w.heap.size < b ∧ b < wx.heap.size
theorem gbox1 {w wc : World} (hb : Below (gworld w).drew.drew.heap.size (gworld w).drew.drew wc) :
    wc.cell? ⟨w.heap.size, 0, none⟩ = some (.int .u64 0) ∧ wc.cell? ⟨w.heap.size, 1, none⟩ = some (.int .u32 0) ∧ wc.cell? ⟨w.heap.size, 2, none⟩ = some (.bool false) ∧ wc.cell? ⟨w.heap.size, 3, none⟩ = some (.slice none 0 0) ∧
    (∀ o, wc.frozen? ⟨w.heap.size, o, none⟩ = false) ∧ w.heap.size < wc.heap.size := by
  have hs : (gworld w).drew.drew.heap.size = w.heap.size + 1 := by show (gworld w).heap.size = _; simp
  have c : ∀ b o, b < w.heap.size + 1 → wc.cell? ⟨b, o, none⟩ = (gworld w).cell? ⟨b, o, none⟩ := fun b o h => hb.cell (p := ⟨b, o, none⟩) (by rw [hs]; exact h)
  have f : ∀ b o, b < w.heap.size + 1 → wc.frozen? ⟨b, o, none⟩ = (gworld w).frozen? ⟨b, o, none⟩ := fun b o h => hb.frozen (p := ⟨b, o, none⟩) (by rw [hs]; exact h)
  refine ⟨?_, ?_, ?_, ?_, fun o => ?_, ?_⟩
  any_goals (rw [c _ _ (by omega)]; go_simp)
  · rw [f _ _ (by omega)]
    go_simp
  · have := hb.size
    omega

theorem gotBox_new {w wc : World} {l : List UInt8} {d k c : Nat} {g : Bool} {xc : Option Addr} {cc : Nat}
    (hown : wc.ownsRow (gworld w).drew.drew.heap.size 5 1 (.slice xc d cc) d (bvs l)) (hb : Below (gworld w).drew.drew.heap.size (gworld w).drew.drew wc) :
    GotBox w l d k c g (.pointer (some ⟨wc.heap.size, 0, none⟩)) (wc.alloc (.cells #[.int .u64 (k : Int), .int .u32 (c : Int), .bool g, .slice xc d cc] 40)) := by
  obtain ⟨z0, z1, z2, z3, g0, hs⟩ := gbox1 hb
  have hsz : (gworld w).drew.drew.heap.size = w.heap.size + 1 := by show (gworld w).heap.size = _; simp
  have hb1 : Below wc.heap.size wc (wc.alloc (.cells #[.int .u64 (k : Int), .int .u32 (c : Int), .bool g, .slice xc d cc] 40)) := (Below.refl _ _).alloc (Nat.le_refl _) _
  refine ⟨wc.heap.size, xc, cc, rfl, ?_, ?_, ?_, ?_, ownsRow_base (hown.alloc _) (by omega), ?_, ?_, ?_, ?_, fun o => ?_, ?_, hs, by simp⟩
  any_goals go_simp
  · exact ((gworld_below w).drew.drew).trans ((hb.mono (by omega)).trans (hb1.mono (by omega)))
theorem gotBox_set {w wc : World} {l : List UInt8} {d k c : Nat} {g : Bool} {xc : Option Addr} {cc : Nat}
    (hown : wc.ownsRow (gworld2 w).drew.drew.heap.size 5 1 (.slice xc d cc) d (bvs l)) (hb : Below (gworld2 w).drew.drew.heap.size (gworld2 w).drew.drew wc) :
    GotBox w l d k c g (.pointer (some ⟨w.heap.size + 1, 0, none⟩)) ((((wc.setCell ⟨w.heap.size + 1, 0, none⟩ (.int .u64 (k : Int))).setCell ⟨w.heap.size + 1, 1, none⟩ (.int .u32 (c : Int))).setCell ⟨w.heap.size + 1, 2, none⟩ (.bool g)).setCell ⟨w.heap.size + 1, 3, none⟩ (.slice xc d cc)) := by
  obtain ⟨z0, z1, z2, z3, y0, y1, y2, y3, g0, g1, hs⟩ := gbox2 hb
  have hsz : (gworld2 w).drew.drew.heap.size = w.heap.size + 2 := by show (gworld2 w).heap.size = _; simp
  have ho : ∀ (W : World) (p : Addr) (u : Value), p.block < w.heap.size + 2 → W.ownsRow (w.heap.size + 2) 5 1 (.slice xc d cc) d (bvs l) → (W.setCell p u).ownsRow (w.heap.size + 2) 5 1 (.slice xc d cc) d (bvs l) := fun W p u hp h => ownsRow_setCell_below h hp u
  rw [hsz] at hown
  refine ⟨w.heap.size + 1, xc, cc, rfl, ?_, ?_, ?_, ?_, ownsRow_base (ho _ _ _ (by simp) (ho _ _ _ (by simp) (ho _ _ _ (by simp) (ho _ _ _ (by simp) hown)))) (by omega), ?_, ?_, ?_, ?_, fun o => ?_, ?_, by omega, by simpa using hs⟩
  any_goals go_simp
  · have h2 : Below w.heap.size w (gworld2 w) := (gworld_below w).alloc (by simp) _
    have h3 : Below w.heap.size w wc := h2.drew.drew.trans (hb.mono (by omega))
    exact (((h3.setCell (by simp) _).setCell (by simp) _).setCell (by simp) _).setCell (by simp) _
theorem got_fin {w wx : World} {U : TypeId} {x : Option Addr} {d cc : Nat} {xs : List Value} {u0 u1 u2 u3 : Value} (h : wx.ownsRow (w.heap.size + 1) U 1 (.slice x d cc) d xs) :
    ((((wx.setCell ⟨w.heap.size, 0, none⟩ u0).setCell ⟨w.heap.size, 1, none⟩ u1).setCell ⟨w.heap.size, 2, none⟩ u2).setCell ⟨w.heap.size, 3, none⟩ u3).ownsRow w.heap.size U 1 (.slice x d cc) d xs :=
  ownsRow_base (ownsRow_setCell_below (ownsRow_setCell_below (ownsRow_setCell_below (ownsRow_setCell_below h (Nat.lt_succ_self _) _) (Nat.lt_succ_self _) _) (Nat.lt_succ_self _) _) (Nat.lt_succ_self _) _) (Nat.le_succ _)
theorem got_bel {w wx : World} {u0 u1 u2 u3 : Value} (h : Below w.heap.size w wx) :
    Below w.heap.size w ((((wx.setCell ⟨w.heap.size, 0, none⟩ u0).setCell ⟨w.heap.size, 1, none⟩ u1).setCell ⟨w.heap.size, 2, none⟩ u2).setCell ⟨w.heap.size, 3, none⟩ u3) :=
  (((h.setCell (Nat.le_refl _) _).setCell (Nat.le_refl _) _).setCell (Nat.le_refl _) _).setCell (Nat.le_refl _) _

end Go.Proofs.Ytncfdkkekaninaa
