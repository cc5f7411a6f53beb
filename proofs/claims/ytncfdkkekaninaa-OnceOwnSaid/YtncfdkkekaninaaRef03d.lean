/- The document's answers for layer 3, by contracts: the needle of bytes, the sum and what follows. -/
import Derived.Test.YtncfdkkekaninaaRef03c
import Derived.Deep.RegionLaw
set_option linter.unusedVariables false
set_option linter.unusedSimpArgs false
namespace Go.Proofs.Ytncfdkkekaninaa
open Go.RowKit Go.Cor

/-- What stands in the two blocks behind the data's copy. -/
def RGot (w : World) (D : List UInt8) (d k c : Nat) (g : Bool) (wx : World) : Prop :=
  ∃ x cd, Boxed wx (w.heap.size + 1) ⟨k, c, g, []⟩ (.slice x d cd) ∧ wx.ownsRow (w.heap.size + 2) 5 1 (.slice x d cd) d (bvs D) ∧ Boxed wx w.heap.size ⟨0, 0, false, []⟩ (.slice none 0 0) ∧
    (∀ o, wx.frozen? ⟨w.heap.size, o, none⟩ = false) ∧ (∀ o, wx.frozen? ⟨w.heap.size + 1, o, none⟩ = false) ∧ Below w.heap.size w wx ∧ w.heap.size + 2 ≤ wx.heap.size
theorem RGot.mono {w wx wy : World} {D : List UInt8} {d k c : Nat} {g : Bool} {B : Nat} (h : RGot w D d k c g wx) (hb : Below B wx wy) (hB : wx.heap.size ≤ B) : RGot w D d k c g wy := by
  obtain ⟨x, cd, h1, h2, h3, h4, h5, h6, h7⟩ := h
  refine ⟨x, cd, h1.mono hb (by omega), ownsRow_below h2 hb hB, h3.mono hb (by omega), fun o => ?_, fun o => ?_, h6.trans (hb.mono (by omega)), Nat.le_trans h7 hb.size⟩
  · rw [hb.frozen (p := ⟨w.heap.size, o, none⟩) (by show w.heap.size < B; omega)]
    exact h4 o
  · rw [hb.frozen (p := ⟨w.heap.size + 1, o, none⟩) (by show w.heap.size + 1 < B; omega)]
    exact h5 o
theorem rbox_facts (w : World) (k c : Nat) (g : Bool) (v : Value) :
    Boxed (rbox w k c g v) (w.heap.size + 1) ⟨k, c, g, []⟩ v ∧ Boxed (rbox w k c g v) w.heap.size ⟨0, 0, false, []⟩ (.slice none 0 0) ∧ (∀ o, (rbox w k c g v).frozen? ⟨w.heap.size, o, none⟩ = false) ∧ (∀ o, (rbox w k c g v).frozen? ⟨w.heap.size + 1, o, none⟩ = false) ∧ (rbox w k c g v).heap.size = w.heap.size + 2 := by
  refine ⟨⟨?_, ?_, ?_, ?_⟩, ⟨?_, ?_, ?_, ?_⟩, fun o => ?_, fun o => ?_, ?_⟩ <;> go_simp
theorem appd {w : World} {B : Nat} {U : TypeId} {v : Value} {D : List UInt8} {d : Nat} (hd : D.length = d) (h : w.ownsRow B U 1 v ([] ++ D).length (bvs ([] ++ D))) : ∃ x c, v = .slice x d c ∧ w.ownsRow B U 1 (.slice x d c) d (bvs D) := by
  rw [List.nil_append, hd] at h
  obtain ⟨x, c, rfl⟩ := ownsRow_slice h
  exact ⟨x, c, rfl, h⟩
theorem rgot_set {w wd : World} {D : List UInt8} {d k c : Nat} {g : Bool} {x : Option Addr} {cd : Nat} (hown : wd.ownsRow (w.heap.size + 2) 5 1 (.slice x d cd) d (bvs D)) (hb : Below (w.heap.size + 2) (rbox w k c g (.slice none 0 0)) wd) :
    RGot w D d k c g (wd.setCell ⟨w.heap.size + 1, 3, none⟩ (.slice x d cd)) := by
  obtain ⟨h1, h2, h3, h4, h5⟩ := rbox_facts w k c g (.slice none 0 0)
  obtain ⟨a0, a1, a2, a3⟩ := h1.mono hb (by omega)
  obtain ⟨b0, b1, b2, b3⟩ := h2.mono hb (by omega)
  have f4 : wd.frozen? ⟨w.heap.size + 1, 3, none⟩ = false := by rw [hb.frozen (p := ⟨w.heap.size + 1, 3, none⟩) (by show w.heap.size + 1 < w.heap.size + 2; omega)]; exact h4 3
  have hown2 := ownsRow_setCell_below hown (a := ⟨w.heap.size + 1, 3, none⟩) (by show w.heap.size + 1 < w.heap.size + 2; omega) (.slice x d cd)
  have hsz := hb.size
  refine ⟨x, cd, ⟨?_, ?_, ?_, ?_⟩, hown2, ⟨?_, ?_, ?_, ?_⟩, fun o => ?_, fun o => ?_, ?_, ?_⟩
  any_goals go_simp
  · rw [hb.frozen (p := ⟨w.heap.size, o, none⟩) (by show w.heap.size < w.heap.size + 2; omega)]
    exact h3 o
  · rw [hb.frozen (p := ⟨w.heap.size + 1, o, none⟩) (by show w.heap.size + 1 < w.heap.size + 2; omega)]
    exact h4 o
  · exact ((rbox_below w k c g (.slice none 0 0)).trans (hb.mono (by omega))).setCell (by simp) _
  · omega

theorem rbox_at {w wd : World} {k c : Nat} {g : Bool} (hb : Below (w.heap.size + 2) (rbox w k c g (.slice none 0 0)).drew.drew.drew wd) :
    wd.cell? ⟨w.heap.size + 1, 0, none⟩ = some (.int .u64 (k : Int)) ∧ wd.cell? ⟨w.heap.size + 1, 1, none⟩ = some (.int .u32 (c : Int)) ∧ wd.cell? ⟨w.heap.size + 1, 2, none⟩ = some (.bool g) ∧ wd.cell? ⟨w.heap.size + 1, 3, none⟩ = some (.slice none 0 0) ∧ wd.frozen? ⟨w.heap.size + 1, 3, none⟩ = false := by
  obtain ⟨h1, h2, h3, h4, h5⟩ := rbox_facts w k c g (.slice none 0 0)
  have hb' : Below (w.heap.size + 2) (rbox w k c g (.slice none 0 0)) wd := ((((Below.refl (w.heap.size + 2) (rbox w k c g (.slice none 0 0))).drew).drew).drew).trans hb
  obtain ⟨a0, a1, a2, a3⟩ := h1.mono hb' (by omega)
  refine ⟨a0, a1, a2, a3, ?_⟩
  rw [hb'.frozen (p := ⟨w.heap.size + 1, 3, none⟩) (by show w.heap.size + 1 < w.heap.size + 2; omega)]
  exact h4 3

theorem pad_get {l : List UInt8} {i : Nat} (h : i < padn (dlen l)) : (padOf l).getD i 0 = l.getD (32 + dlen l + i) 0 := by
  unfold padOf
  simp only [List.getD_eq_getElem?_getD, List.getElem?_take, if_pos h, List.getElem?_drop]
theorem pad_len {l : List UInt8} (h : total l ≤ l.length) : (padOf l).length = padn (dlen l) := by
  unfold padOf
  unfold total at h
  rw [List.length_take, List.length_drop]
  omega
theorem pad_zero {l : List UInt8} (h : total l ≤ l.length) (hz : zeroB (padOf l) = true) (i : Nat) (h1 : 32 + dlen l ≤ i) (h2 : i < total l) : l.getD i 0 = 0 := by
  have hi : i - (32 + dlen l) < padn (dlen l) := by unfold total at h2; omega
  have e := pad_get hi
  rw [show 32 + dlen l + (i - (32 + dlen l)) = i from by omega] at e
  rw [← e, List.getD_eq_getElem?_getD, List.getElem?_eq_getElem (by rw [pad_len h]; exact hi)]
  exact of_decide_eq_true hz _ (List.getElem_mem _)
theorem pad_first {l : List UInt8} (h : total l ≤ l.length) (hz : zeroB (padOf l) = false) : ∃ q, 32 + dlen l ≤ q ∧ q < total l ∧ l.getD q 0 ≠ 0 ∧ ∀ i, 32 + dlen l ≤ i → i < q → l.getD i 0 = 0 := by
  obtain ⟨p, h1, h2, h3⟩ := zeroB_first hz
  rw [pad_len h] at h1
  refine ⟨32 + dlen l + p, by omega, by unfold total; omega, by rw [← pad_get h1]; exact h2, fun i hi1 hi2 => ?_⟩
  have e := pad_get (l := l) (i := i - (32 + dlen l)) (by omega)
  rw [show 32 + dlen l + (i - (32 + dlen l)) = i from by omega] at e
  rw [← e]
  exact h3 _ (by omega)

end Go.Proofs.Ytncfdkkekaninaa
