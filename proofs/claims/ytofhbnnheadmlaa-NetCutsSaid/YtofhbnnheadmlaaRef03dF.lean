/- Ref03, Ref03b, Ref03c, Ref03d. -/
import Derived.Test.YtofhbnnheadmlaaNeedleeF
import Derived.Deep.CutRange
import Derived.Deep.RegionLaw
set_option linter.unusedVariables false
set_option linter.unusedSimpArgs false

section
namespace Go.Proofs.Ytofhbnnheadmlaa
open Go.RowKit Go.Cor

theorem refcheck_any (n : Ndl) (v : Value) (w : World) (hv : IsB w v n.data) :
    Calls Try.prog 36 #[nval n v] w fun e w' => e = .returned (.int .i64 (ncheck n : Nat)) ∧ Below w.heap.size w w' := by
  obtain ⟨k, c, g, l⟩ := n
  obtain ⟨d, hd⟩ : ∃ d : Nat, l.length = d := ⟨_, rfl⟩
  obtain ⟨x, cap, rfl, hlc, hcm⟩ := hv.at_len hd
  unfold maxLen at hcm
  have HR : Hid (ncheck ⟨k, c, g, l⟩ = if 4096 < d then 2 else if g = true ∧ 0 < d then 1 else 0) := by
    show ncheck ⟨k, c, g, l⟩ = _
    unfold ncheck
    rw [hd]
  clear hv hd
  by_cases h1 : 4096 < d
  · go_enter Try.func36, Try.ntmps36
    go_wp2
    go_ret
    exact ⟨by rw [HR.out, if_pos h1]; rfl, (Below.refl _ _).alloc (Nat.le_refl _) _⟩
  · cases g with
    | false =>
      go_enter Try.func36, Try.ntmps36
      go_wp2
      go_ret
      exact ⟨by rw [HR.out, if_neg h1]; rfl, (Below.refl _ _).alloc (Nat.le_refl _) _⟩
    | true =>
      by_cases h2 : 0 < d
      · go_enter Try.func36, Try.ntmps36
        go_wp2
        go_ret
        exact ⟨by rw [HR.out, if_neg h1, if_pos ⟨trivial, h2⟩]; rfl, (Below.refl _ _).alloc (Nat.le_refl _) _⟩
      · go_enter Try.func36, Try.ntmps36
        go_wp2
        go_ret
        exact ⟨by rw [HR.out, if_neg h1, if_neg (fun h => h2 h.2)]; rfl, (Below.refl _ _).alloc (Nat.le_refl _) _⟩

set_option maxHeartbeats 400000 in
theorem refsame_any (a b : Ndl) (va vb : Value) (w : World) (ha : IsB w va a.data) (hb : IsB w vb b.data) (hl : a.data.length ≤ 1099511627776) :
    Calls Try.prog 33 #[nval a va, nval b vb] w fun e w' => e = .returned (.bool (sameN a b)) ∧ Below w.heap.size w w' := by
  obtain ⟨k1, c1, g1, l⟩ := a
  obtain ⟨k2, c2, g2, m⟩ := b
  by_cases hk : k1 = k2
  · subst hk
    by_cases hc : c1 = c2
    · subst hc
      by_cases hg : g1 = g2
      · subst hg
        rw [sameN_data]
        have HA := Lib.hid ha
        have HB := Lib.hid hb
        clear ha hb
        go_enter Try.func33, Try.ntmps33
        go_wp2_with fail
        refine (same_any _ _ l m _ ?_ ?_ hl).mono ?_
        · exact (HA.out.mono ((Below.refl _ _).alloc (Nat.le_refl _) _) (Nat.le_refl _)).mono ((Below.refl _ _).alloc (Nat.le_refl _) _) (Nat.le_refl _)
        · exact (HB.out.mono ((Below.refl _ _).alloc (Nat.le_refl _) _) (Nat.le_refl _)).mono ((Below.refl _ _).alloc (Nat.le_refl _) _) (Nat.le_refl _)
        rintro e w' ⟨rfl, nd, rfl⟩
        go_wp2
        go_ret
        exact ⟨rfl, below_drewN (((Below.refl _ _).alloc (Nat.le_refl _) _).alloc (by simp) _) nd⟩
      · rw [sameN_gone hg]
        have hgb : (g1 == g2) = false := by simpa using hg
        clear hg
        go_enter Try.func33, Try.ntmps33
        go_wp2
        go_ret
        exact ⟨rfl, ((Below.refl _ _).alloc (Nat.le_refl _) _).alloc (by simp) _⟩
    · rw [sameN_cookie hc]
      have hcb : ((c1 : Int) == (c2 : Int)) = false := by rw [beq_eq_false_iff_ne]; omega
      clear hc
      go_enter Try.func33, Try.ntmps33
      go_wp2
      go_ret
      exact ⟨rfl, ((Below.refl _ _).alloc (Nat.le_refl _) _).alloc (by simp) _⟩
  · rw [sameN_key hk]
    have hkb : ((k1 : Int) == (k2 : Int)) = false := by rw [beq_eq_false_iff_ne]; omega
    clear hk
    go_enter Try.func33, Try.ntmps33
    go_wp2
    go_ret
    exact ⟨rfl, ((Below.refl _ _).alloc (Nat.le_refl _) _).alloc (by simp) _⟩


/-- A slice's length. -/
def lenV : Value → Nat
  | .slice _ n _ => n
  | _ => 0
theorem zlit4 (w : World) : IsB (w.alloc (.cells #[.int .u8 0, .int .u8 0, .int .u8 0, .int .u8 0] 5)) (.slice (some ⟨w.heap.size, 0, none⟩) 4 4) (zerosN 4) := IsB.lit w (zerosN 4) 5 (by decide)
theorem zlit1 (w : World) : IsB (w.alloc (.cells #[.int .u8 0] 5)) (.slice (some ⟨w.heap.size, 0, none⟩) 1 1) (zerosN 1) := IsB.lit w (zerosN 1) 5 (by decide)
theorem front_fin1 {w : World} {B : Nat} {U : TypeId} {v : Value} {F : List UInt8} {k c d f : Nat} (e : F = le 1313162572 4 ++ le f 4 ++ le k 8 ++ le c 4 ++ le d 4)
    (h : w.ownsRow (B + 1) U 1 v ((le 1313162572 4).length + ((le f 4).length + ((le k 8).length + ((le c 4).length + (le d 4).length)))) (bvs (le 1313162572 4 ++ (le f 4 ++ (le k 8 ++ (le c 4 ++ le d 4)))))) :
    w.ownsRow (B + 1) U 1 v F.length (bvs F) := by
  simp only [length_le] at h
  rw [e]
  simpa [length_le] using h

end Go.Proofs.Ytofhbnnheadmlaa
end

section
namespace Go.Proofs.Ytofhbnnheadmlaa
open Go.RowKit Go.Cor

abbrev rworld (w : World) : World := w.alloc (.cells #[.int .u64 0, .int .u32 0, .bool false, .slice none 0 0] 28)
theorem rworld_below (w : World) : Below w.heap.size w (rworld w) := (Below.refl _ _).alloc (Nat.le_refl _) _
theorem isB_rw {w : World} {v : Value} {l : List UInt8} (h : IsB w v l) : IsB (rworld w) v l := h.mono (rworld_below w) (Nat.le_refl _)
theorem indexAt_B {P : Program} {w : World} {v : Value} {l : List UInt8} (hv : IsB w v l) (_hl : l.length ≤ 1099511627776) (T U : TypeId) (ht : P.underlying T = some (.slice U)) (hs : (P.info? U).map (·.size) = some 1) (i : Nat) (hi : i < l.length) :
    ∃ b o, (∀ W, (Instr.indexAt T v (.int .i64 (i : Int))).run P W = .ok (.pointer (some ⟨b, o, none⟩)) W) ∧ w.cell? ⟨b, o, none⟩ = some (bv (l.getD i 0)) := by
  obtain ⟨j, hj1, hj2⟩ := Option.map_eq_some_iff.1 hs
  obtain ⟨a, cap, rfl, k1, k2, k0, k3⟩ := hv
  rcases k3 with k3 | ⟨b, off, rfl, hc⟩
  · omega
  refine ⟨b, off + i, fun W => ?_, hc i hi⟩
  have ht' : P.underlying T = some (.slice (P.elem T)) := by simp [Program.elem, ht]
  have he : P.elem T = U := by simp [Program.elem, ht]
  have hsz : ∀ W, (sizeOf U).run P W = .ok 1 W := fun W => by simp [sizeOf, typeInfo, hj1, hj2]
  have h0 : (0 : Int) ≤ (i : Int) := by omega
  have h1 : (i : Int) < (l.length : Int) := by omega
  go_simp

theorem k48 : 4 ≤ 8 := by decide
theorem k88 : 8 ≤ 8 := by decide

end Go.Proofs.Ytofhbnnheadmlaa
end

section
namespace Go.Proofs.Ytofhbnnheadmlaa
open Go.RowKit Go.Cor

/-- The world behind the needle's own block. -/
abbrev rbox (w : World) (k c : Nat) (g : Bool) (v : Value) : World := (rworld w).alloc (.cells #[.int .u64 (k : Int), .int .u32 (c : Int), .bool g, v] 28)
abbrev rworld2 (w : World) : World := (rworld w).alloc (.cells #[.int .u64 0, .int .u32 0, .bool false, .slice none 0 0] 28)
theorem isB_rw2 {w : World} {v : Value} {l : List UInt8} (h : IsB w v l) : IsB (rworld2 w) v l := (isB_rw h).mono ((Below.refl _ _).alloc (Nat.le_refl _) _) (Nat.le_refl _)
theorem rbox_below (w : World) (k c : Nat) (g : Bool) (v : Value) : Below w.heap.size w (rbox w k c g v) := (rworld_below w).alloc (by simp) _

end Go.Proofs.Ytofhbnnheadmlaa
end

section
namespace Go.Proofs.Ytofhbnnheadmlaa
open Go.RowKit Go.Cor

/-- What stands in the two blocks behind the data's copy. -/
def RGot (w : World) (D : List UInt8) (d k c : Nat) (g : Bool) (wx : World) : Prop :=
  ∃ x cd, Boxed wx (w.heap.size + 1) ⟨k, c, g, []⟩ (.slice x d cd) ∧ wx.ownsRow (w.heap.size + 2) 5 1 (.slice x d cd) d (bvs D) ∧ Boxed wx w.heap.size ⟨0, 0, false, []⟩ (.slice none 0 0) ∧
    (∀ o, wx.frozen? ⟨w.heap.size, o, none⟩ = false) ∧ (∀ o, wx.frozen? ⟨w.heap.size + 1, o, none⟩ = false) ∧ Below w.heap.size w wx ∧ w.heap.size + 2 ≤ wx.heap.size
theorem RGot.mono {w wx wy : World} {D : List UInt8} {d k c : Nat} {g : Bool} {B : Nat} (h : RGot w D d k c g wx) (hb : Below B wx wy) (hB : wx.heap.size ≤ B) : RGot w D d k c g wy := by
  obtain ⟨x, cd, h1, h2, h3, h4, h5, h6, h7⟩ := h
  refine ⟨x, cd, h1.mono hb (by omega), ownsRow_below h2 hb hB, h3.mono hb (by omega), fun o => ?_, fun o => ?_, h6.trans (hb.mono (by omega)), Nat.le_trans h7 hb.size⟩
  · rw [hb.frozen (p := ⟨w.heap.size, o, none⟩) (by show w.heap.size < B; omega)]
    exact h4 o
  · rw [hb.frozen (p := ⟨w.heap.size + 1, o, none⟩) (by show w.heap.size + 1 < B; omega)]
    exact h5 o
theorem rbox_facts (w : World) (k c : Nat) (g : Bool) (v : Value) :
    Boxed (rbox w k c g v) (w.heap.size + 1) ⟨k, c, g, []⟩ v ∧ Boxed (rbox w k c g v) w.heap.size ⟨0, 0, false, []⟩ (.slice none 0 0) ∧ (∀ o, (rbox w k c g v).frozen? ⟨w.heap.size, o, none⟩ = false) ∧ (∀ o, (rbox w k c g v).frozen? ⟨w.heap.size + 1, o, none⟩ = false) ∧ (rbox w k c g v).heap.size = w.heap.size + 2 := by
  refine ⟨⟨?_, ?_, ?_, ?_⟩, ⟨?_, ?_, ?_, ?_⟩, fun o => ?_, fun o => ?_, ?_⟩ <;> go_simp
theorem appd {w : World} {B : Nat} {U : TypeId} {v : Value} {D : List UInt8} {d : Nat} (hd : D.length = d) (h : w.ownsRow B U 1 v ([] ++ D).length (bvs ([] ++ D))) : ∃ x c, v = .slice x d c ∧ w.ownsRow B U 1 (.slice x d c) d (bvs D) := by
  rw [List.nil_append, hd] at h
  obtain ⟨x, c, rfl⟩ := ownsRow_slice h
  exact ⟨x, c, rfl, h⟩
theorem rgot_set {w wd : World} {D : List UInt8} {d k c : Nat} {g : Bool} {x : Option Addr} {cd : Nat} (hown : wd.ownsRow (w.heap.size + 2) 5 1 (.slice x d cd) d (bvs D)) (hb : Below (w.heap.size + 2) (rbox w k c g (.slice none 0 0)) wd) :
    RGot w D d k c g (wd.setCell ⟨w.heap.size + 1, 3, none⟩ (.slice x d cd)) := by
  obtain ⟨h1, h2, h3, h4, h5⟩ := rbox_facts w k c g (.slice none 0 0)
  obtain ⟨a0, a1, a2, a3⟩ := h1.mono hb (by omega)
  obtain ⟨b0, b1, b2, b3⟩ := h2.mono hb (by omega)
  have f4 : wd.frozen? ⟨w.heap.size + 1, 3, none⟩ = false := by rw [hb.frozen (p := ⟨w.heap.size + 1, 3, none⟩) (by show w.heap.size + 1 < w.heap.size + 2; omega)]; exact h4 3
  have hown2 := ownsRow_setCell_below hown (a := ⟨w.heap.size + 1, 3, none⟩) (by show w.heap.size + 1 < w.heap.size + 2; omega) (.slice x d cd)
  have hsz := hb.size
  refine ⟨x, cd, ⟨?_, ?_, ?_, ?_⟩, hown2, ⟨?_, ?_, ?_, ?_⟩, fun o => ?_, fun o => ?_, ?_, ?_⟩
  any_goals go_simp
  · rw [hb.frozen (p := ⟨w.heap.size, o, none⟩) (by show w.heap.size < w.heap.size + 2; omega)]
    exact h3 o
  · rw [hb.frozen (p := ⟨w.heap.size + 1, o, none⟩) (by show w.heap.size + 1 < w.heap.size + 2; omega)]
    exact h4 o
  · exact ((rbox_below w k c g (.slice none 0 0)).trans (hb.mono (by omega))).setCell (by simp) _
  · omega

theorem rbox_at {w wd : World} {k c : Nat} {g : Bool} (hb : Below (w.heap.size + 2) (rbox w k c g (.slice none 0 0)).drew.drew.drew wd) :
    wd.cell? ⟨w.heap.size + 1, 0, none⟩ = some (.int .u64 (k : Int)) ∧ wd.cell? ⟨w.heap.size + 1, 1, none⟩ = some (.int .u32 (c : Int)) ∧ wd.cell? ⟨w.heap.size + 1, 2, none⟩ = some (.bool g) ∧ wd.cell? ⟨w.heap.size + 1, 3, none⟩ = some (.slice none 0 0) ∧ wd.frozen? ⟨w.heap.size + 1, 3, none⟩ = false := by
  obtain ⟨h1, h2, h3, h4, h5⟩ := rbox_facts w k c g (.slice none 0 0)
  have hb' : Below (w.heap.size + 2) (rbox w k c g (.slice none 0 0)) wd := ((((Below.refl (w.heap.size + 2) (rbox w k c g (.slice none 0 0))).drew).drew).drew).trans hb
  obtain ⟨a0, a1, a2, a3⟩ := h1.mono hb' (by omega)
  refine ⟨a0, a1, a2, a3, ?_⟩
  rw [hb'.frozen (p := ⟨w.heap.size + 1, 3, none⟩) (by show w.heap.size + 1 < w.heap.size + 2; omega)]
  exact h4 3

theorem pad_get {l : List UInt8} {i : Nat} (h : i < padn (dlen l)) : (padOf l).getD i 0 = l.getD (32 + dlen l + i) 0 := by
  unfold padOf
  simp only [List.getD_eq_getElem?_getD, List.getElem?_take, if_pos h, List.getElem?_drop]
theorem pad_len {l : List UInt8} (h : total l ≤ l.length) : (padOf l).length = padn (dlen l) := by
  unfold padOf
  unfold total at h
  rw [List.length_take, List.length_drop]
  omega
theorem pad_zero {l : List UInt8} (h : total l ≤ l.length) (hz : zeroB (padOf l) = true) (i : Nat) (h1 : 32 + dlen l ≤ i) (h2 : i < total l) : l.getD i 0 = 0 := by
  have hi : i - (32 + dlen l) < padn (dlen l) := by unfold total at h2; omega
  have e := pad_get hi
  rw [show 32 + dlen l + (i - (32 + dlen l)) = i from by omega] at e
  rw [← e, List.getD_eq_getElem?_getD, List.getElem?_eq_getElem (by rw [pad_len h]; exact hi)]
  exact of_decide_eq_true hz _ (List.getElem_mem _)
theorem pad_first {l : List UInt8} (h : total l ≤ l.length) (hz : zeroB (padOf l) = false) : ∃ q, 32 + dlen l ≤ q ∧ q < total l ∧ l.getD q 0 ≠ 0 ∧ ∀ i, 32 + dlen l ≤ i → i < q → l.getD i 0 = 0 := by
  obtain ⟨p, h1, h2, h3⟩ := zeroB_first hz
  rw [pad_len h] at h1
  refine ⟨32 + dlen l + p, by omega, by unfold total; omega, by rw [← pad_get h1]; exact h2, fun i hi1 hi2 => ?_⟩
  have e := pad_get (l := l) (i := i - (32 + dlen l)) (by omega)
  rw [show 32 + dlen l + (i - (32 + dlen l)) = i from by omega] at e
  rw [← e]
  exact h3 _ (by omega)

end Go.Proofs.Ytofhbnnheadmlaa
end
