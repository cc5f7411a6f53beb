/- Behind, Pack, Disk, Diskb, Name. -/
import Derived.Test.YtcpoaofcfefgaaaGreatDoorM2
import Derived.Test.YtcpoaofcfefgaaaGreatDoorChecked
import Derived.Test.YtcpoaofcfefgaaaGreatDoorM1
import Derived.WalkSpells
import Derived.WalkLawsBesides
import Derived.Deep.QuietTactic
import Derived.BigQuiet
import Derived.StillTailTactics
import Derived.Deep.RegionHeld3
import Derived.Deep.CutRange

section
namespace Go.Proofs.YtcpoaofcfefgaaaGreatDoor
open Go.RowKit Go.Cor

theorem BoxD.facts {w : World} {g : Nat} {a b : ByteArray} {q : Option Addr} {T : TypeId} (h : Blk w g #[.string a, .string b, .pointer q] T) :
    w.cell? ⟨g, 0, none⟩ = some (.string a) ∧ w.cell? ⟨g, 1, none⟩ = some (.string b) ∧ w.cell? ⟨g, 2, none⟩ = some (.pointer q) := ⟨h.cell 0 rfl, h.cell 1 rfl, h.cell 2 rfl⟩
theorem wout_some {l : Tbl} (hs : Sorted l) {n : ByteArray} {f : Nat} (h : tfind l n = some f) : l.eraseIdx (pos l n) = wout l n ∧ pos l n < l.length := ⟨erase_pos hs h, (List.getElem?_eq_some_iff.1 (tfind_at hs h)).1⟩

/-- What a change of a table leaves. -/
def Tabled (fb : Nat → Nat) (w : World) (v : Value) (t : Tbl) (e : Ending) (w' : World) : Prop :=
  ∃ v', e = .returned v' ∧ w'.ownsRow 0 169 2 v' t.length (row (ent fb) t) ∧ Kept (fun k => v.ownBlock = some k) w w' ∧ (∀ k, v'.ownBlock = some k → v.ownBlock = some k ∨ w.heap.size ≤ k)

theorem Tabled.mk {fb : Nat → Nat} {w w' : World} {v v' : Value} {t : Tbl} (h1 : w'.ownsRow 0 169 2 v' t.length (row (ent fb) t)) (h2 : Kept (fun k => v.ownBlock = some k) w w') (h3 : ∀ k, v'.ownBlock = some k → v.ownBlock = some k ∨ w.heap.size ≤ k) : Tabled fb w v t (.returned v') w' := ⟨v', rfl, h1, h2, h3⟩
theorem empty_toList : noName.toList.isEmpty = true := by rw [Lib.toList_data]; rfl
theorem some_toList {s : ByteArray} (h : s ≠ noName) : s.toList.isEmpty = false := by
  rw [Lib.toList_data]
  cases hd : s.data.toList with
  | cons => rfl
  | nil => exact absurd (ByteArray.ext (Array.toList_eq_nil_iff.1 hd)) h

set_option maxRecDepth 100000 in
set_option maxHeartbeats 4000000 in
theorem behind_0e (fb : Nat → Nat) (v : Value) (l : Tbl) (src dst : ByteArray) (q : Option Addr) (f : Nat) (w : World) (hv : w.ownsRow 0 169 2 v l.length (row (ent fb) l)) (hs : Sorted l) (hl : l.length ≤ 1048575) (ha : Hid (tfind l src = none)) (hd : Hid (dst = noName)) :
    Calls Tryz.prog 110 #[v, .agg #[.string src, .string dst, .pointer q]] w (Tabled fb w v l) := by
  have hvlt := fun k hk => (hv.lt k hk).2
  have HX0 := Lib.hid (Blk.new w #[.string src, .string dst, .pointer q] 179)
  have HK0 := Lib.hid ((Kept.refl (fun k => v.ownBlock = some k) w).alloc (.cells #[.string src, .string dst, .pointer q] 179))
  have HO0 := Lib.hid (ownsRow_kept hv ((Kept.refl (fun _ => False) w).alloc (.cells #[.string src, .string dst, .pointer q] 179)) (fun _ _ h => h))
  have hB : ¬ v.ownBlock = some w.heap.size := fun e => by have := hvlt _ e; omega
  have hsz0 : (w.alloc (.cells #[.string src, .string dst, .pointer q] 179)).heap.size = w.heap.size + 1 := by simp
  have HSZ := Lib.hid hsz0
  have HVL := Lib.hid hvlt
  have HBN := Lib.hid hB
  have hpl := pos_le l src
  clear hsz0 hv hvlt hB
  go_enter Tryz.func110, Tryz.ntmps110
  go_wp2_with fail
  refine (place_any fb v l src _ (IsX.own HO0.out) hs (by omega)).mono ?_
  rintro e w1 ⟨rfl, hb1⟩
  have hs1 : w.heap.size < w1.heap.size := by have := hb1.size; rw [HSZ.out] at this; omega
  have HX1 := Lib.hid (HX0.out.below hb1 (by rw [HSZ.out]; omega))
  have HK1 := Lib.hid (HK0.out.trans (Kept.of_below (S := fun _ => False) hb1 (Nat.le_refl _)) (fun _ h => h.elim))
  have HO1 := Lib.hid (ownsRow_below HO0.out hb1 (Nat.le_refl _))
  clear hb1 HX0 HK0 HO0
  rw [show (tfind l src).isSome = false from by rw [ha.out]; rfl]
  obtain ⟨c0, c1, c2⟩ := BoxD.facts HX1.out
  have he : dst.toList.isEmpty = true := by rw [hd.out]; exact empty_toList
  go_wp2
  go_ret
  exact Tabled.mk HO1.out HK1.out (fun k hk => .inl (by rw [← (show v.ownBlock = v.ownBlock from rfl)]; exact hk))

set_option maxRecDepth 100000 in
set_option maxHeartbeats 4000000 in
theorem behind_0s (fb : Nat → Nat) (v : Value) (l : Tbl) (src dst : ByteArray) (q : Option Addr) (f : Nat) (w : World) (hv : w.ownsRow 0 169 2 v l.length (row (ent fb) l)) (hs : Sorted l) (hl : l.length ≤ 1048575) (ha : Hid (tfind l src = none)) (hd : Hid (dst ≠ noName)) (hq : Hid (q = some ⟨fb f, 0, none⟩)) (g0 : Nat) (hg : Hid (tfind l dst = some g0)) :
    Calls Tryz.prog 110 #[v, .agg #[.string src, .string dst, .pointer q]] w (Tabled fb w v (wth l dst f)) := by
  have hvlt := fun k hk => (hv.lt k hk).2
  have HX0 := Lib.hid (Blk.new w #[.string src, .string dst, .pointer q] 179)
  have HK0 := Lib.hid ((Kept.refl (fun k => v.ownBlock = some k) w).alloc (.cells #[.string src, .string dst, .pointer q] 179))
  have HO0 := Lib.hid (ownsRow_kept hv ((Kept.refl (fun _ => False) w).alloc (.cells #[.string src, .string dst, .pointer q] 179)) (fun _ _ h => h))
  have hB : ¬ v.ownBlock = some w.heap.size := fun e => by have := hvlt _ e; omega
  have hsz0 : (w.alloc (.cells #[.string src, .string dst, .pointer q] 179)).heap.size = w.heap.size + 1 := by simp
  have HSZ := Lib.hid hsz0
  have HVL := Lib.hid hvlt
  have HBN := Lib.hid hB
  have hpl := pos_le l src
  clear hsz0 hv hvlt hB
  go_enter Tryz.func110, Tryz.ntmps110
  go_wp2_with fail
  refine (place_any fb v l src _ (IsX.own HO0.out) hs (by omega)).mono ?_
  rintro e w1 ⟨rfl, hb1⟩
  have hs1 : w.heap.size < w1.heap.size := by have := hb1.size; rw [HSZ.out] at this; omega
  have HX1 := Lib.hid (HX0.out.below hb1 (by rw [HSZ.out]; omega))
  have HK1 := Lib.hid (HK0.out.trans (Kept.of_below (S := fun _ => False) hb1 (Nat.le_refl _)) (fun _ h => h.elim))
  have HO1 := Lib.hid (ownsRow_below HO0.out hb1 (Nat.le_refl _))
  clear hb1 HX0 HK0 HO0
  rw [show (tfind l src).isSome = false from by rw [ha.out]; rfl]
  obtain ⟨c0, c1, c2⟩ := BoxD.facts HX1.out
  have he : dst.toList.isEmpty = false := some_toList hd.out
  have hpt := pos_le l dst
  go_wp2_with fail
  refine (place_any fb v l dst _ (IsX.own HO1.out) hs (by omega)).mono ?_
  rintro e w3 ⟨rfl, hb3⟩
  have hs3 : w.heap.size < w3.heap.size := Nat.lt_of_lt_of_le hs1 hb3.size
  have HX3 := Lib.hid (HX1.out.below hb3 hs1)
  have HK3 := Lib.hid (HK1.out.trans (Kept.of_below (S := fun _ => False) hb3 (Nat.le_refl _)) (fun _ h => h.elim))
  have HO3 := Lib.hid (ownsRow_below HO1.out hb3 (Nat.le_refl _))
  clear hb3 HX1 HK1 HO1 hs1 c0 c1 c2
  obtain ⟨c0, c1, c2⟩ := BoxD.facts HX3.out
  rw [show (tfind l dst).isSome = true from by rw [hg.out]; rfl]
  have hat := tfind_at hs hg.out
  have hpl2 : pos l dst < l.length := (List.getElem?_eq_some_iff.1 hat).1
  obtain ⟨g, hgo, hidx, hcells, hfree, hst⟩ := indexAt_own HO3.out 85 _ Tryz.underlying85 Tryz.sizeEnt (pos l dst) hpl2
  have hc1 := hcells 1 (by decide)
  rw [row_get (ent_len fb) hat 1 (by decide)] at hc1
  have hc1' : w3.cell? ⟨g, pos l dst * 2 + 1, none⟩ = some (.pointer (some ⟨fb g0, 0, none⟩)) := hc1
  have hf1 := hfree (pos l dst * 2 + 1)
  have HST := Lib.hid (hst (pos l dst * 2 + 1) (.pointer q))
  have HG := Lib.hid hgo
  have HAT := Lib.hid hat
  clear hcells hfree hst hgo hat hc1
  go_wp2
  go_ret
  refine Tabled.mk (v' := v) ?_ (HK3.out.setCell (p := ⟨g, pos l dst * 2 + 1, none⟩) (.inl ?_) (.pointer q)) (fun k hk => .inl (by rw [← (show v.ownBlock = v.ownBlock from rfl)]; exact hk))
  · have h := HST.out
    rw [row_set (ent_len fb) HAT.out 1 (by decide) (.pointer q) (y := (dst, f)) (by rw [hq.out]; rfl), set_pos hs hg.out] at h
    have hlen : (wth l dst f).length = l.length := by rw [← set_pos hs hg.out, List.length_set]
    rw [hlen]
    exact h
  · rw [← (show v.ownBlock = v.ownBlock from rfl)]
    exact HG.out

set_option maxRecDepth 100000 in
set_option maxHeartbeats 4000000 in
theorem behind_0i (fb : Nat → Nat) (v : Value) (l : Tbl) (src dst : ByteArray) (q : Option Addr) (f : Nat) (w : World) (hv : w.ownsRow 0 169 2 v l.length (row (ent fb) l)) (hs : Sorted l) (hl : l.length ≤ 1048575) (ha : Hid (tfind l src = none)) (hd : Hid (dst ≠ noName)) (hq : Hid (q = some ⟨fb f, 0, none⟩)) (hg : Hid (tfind l dst = none)) :
    Calls Tryz.prog 110 #[v, .agg #[.string src, .string dst, .pointer q]] w (Tabled fb w v (wth l dst f)) := by
  have hvlt := fun k hk => (hv.lt k hk).2
  have HX0 := Lib.hid (Blk.new w #[.string src, .string dst, .pointer q] 179)
  have HK0 := Lib.hid ((Kept.refl (fun k => v.ownBlock = some k) w).alloc (.cells #[.string src, .string dst, .pointer q] 179))
  have HO0 := Lib.hid (ownsRow_kept hv ((Kept.refl (fun _ => False) w).alloc (.cells #[.string src, .string dst, .pointer q] 179)) (fun _ _ h => h))
  have hB : ¬ v.ownBlock = some w.heap.size := fun e => by have := hvlt _ e; omega
  have hsz0 : (w.alloc (.cells #[.string src, .string dst, .pointer q] 179)).heap.size = w.heap.size + 1 := by simp
  have HSZ := Lib.hid hsz0
  have HVL := Lib.hid hvlt
  have HBN := Lib.hid hB
  have hpl := pos_le l src
  clear hsz0 hv hvlt hB
  go_enter Tryz.func110, Tryz.ntmps110
  go_wp2_with fail
  refine (place_any fb v l src _ (IsX.own HO0.out) hs (by omega)).mono ?_
  rintro e w1 ⟨rfl, hb1⟩
  have hs1 : w.heap.size < w1.heap.size := by have := hb1.size; rw [HSZ.out] at this; omega
  have HX1 := Lib.hid (HX0.out.below hb1 (by rw [HSZ.out]; omega))
  have HK1 := Lib.hid (HK0.out.trans (Kept.of_below (S := fun _ => False) hb1 (Nat.le_refl _)) (fun _ h => h.elim))
  have HO1 := Lib.hid (ownsRow_below HO0.out hb1 (Nat.le_refl _))
  clear hb1 HX0 HK0 HO0
  rw [show (tfind l src).isSome = false from by rw [ha.out]; rfl]
  obtain ⟨c0, c1, c2⟩ := BoxD.facts HX1.out
  have he : dst.toList.isEmpty = false := some_toList hd.out
  have hpt := pos_le l dst
  go_wp2_with fail
  refine (place_any fb v l dst _ (IsX.own HO1.out) hs (by omega)).mono ?_
  rintro e w3 ⟨rfl, hb3⟩
  have hs3 : w.heap.size < w3.heap.size := Nat.lt_of_lt_of_le hs1 hb3.size
  have HX3 := Lib.hid (HX1.out.below hb3 hs1)
  have HK3 := Lib.hid (HK1.out.trans (Kept.of_below (S := fun _ => False) hb3 (Nat.le_refl _)) (fun _ h => h.elim))
  have HO3 := Lib.hid (ownsRow_below HO1.out hb3 (Nat.le_refl _))
  clear hb3 HX1 HK1 HO1 hs1 c0 c1 c2
  obtain ⟨c0, c1, c2⟩ := BoxD.facts HX3.out
  rw [show (tfind l dst).isSome = false from by rw [hg.out]; rfl]
  have HX4 := Lib.hid (Blk.new w3 #[.string dst, .pointer q] 169)
  have HK4 := Lib.hid (HK3.out.alloc (.cells #[.string dst, .pointer q] 169))
  have HO4 := Lib.hid (ownsRow_kept HO3.out ((Kept.refl (fun _ => False) w3).alloc (.cells #[.string dst, .pointer q] 169)) (fun _ _ h => h))
  have HB4 := Lib.hid (show v.ownBlock ≠ some w3.heap.size from fun e => by have := (HO3.out.lt _ e).2; omega)
  go_wp2_with fail
  refine (tins_any fb v l dst f w3.heap.size (pos l dst) _ HO4.out hpt (by omega) HB4.out (by have h := HX4.out; unfold Blk at h; rw [h, hq.out])).mono ?_
  rintro e w5 ⟨v5, rfl, hown5, hk5, hl5⟩
  have hK5 : Kept (fun k => v.ownBlock = some k) w w5 := HK4.out.trans hk5 (fun j hj _ => by rw [← (show v.ownBlock = v.ownBlock from rfl)]; exact hj)
  have hV5 : ∀ k, v5.ownBlock = some k → v.ownBlock = some k ∨ w.heap.size ≤ k := fun k hk => by
    rcases hl5 with h | h
    · exact .inl (by rw [← (show v.ownBlock = v.ownBlock from rfl), ← h]; exact hk)
    · rw [h] at hk
      have : (w3.alloc (.cells #[.string dst, .pointer q] 169)).heap.size = k := by simpa using hk
      have h2 : (w3.alloc (.cells #[.string dst, .pointer q] 169)).heap.size = w3.heap.size + 1 := by simp
      exact .inr (by omega)
  have hO5 : w5.ownsRow 0 169 2 v5 (wth l dst f).length (row (ent fb) (wth l dst f)) := by
    rw [ins_pos hg.out] at hown5
    have hlen : (wth l dst f).length = l.length + 1 := by rw [wth_length, wout_none hg.out]
    rw [hlen]
    exact hown5
  have HE := Lib.hid (Tabled.mk hO5 hK5 hV5)
  clear hown5 hk5 hl5 hK5 hV5 hO5 c0 c1 c2
  go_wp2
  go_ret
  exact HE.out

set_option maxRecDepth 100000 in
set_option maxHeartbeats 4000000 in
theorem behind_1e (fb : Nat → Nat) (v : Value) (l : Tbl) (src dst : ByteArray) (q : Option Addr) (f : Nat) (w : World) (hv : w.ownsRow 0 169 2 v l.length (row (ent fb) l)) (hs : Sorted l) (hl : l.length ≤ 1048575) (f0 : Nat) (ha : Hid (tfind l src = some f0)) (hd : Hid (dst = noName)) :
    Calls Tryz.prog 110 #[v, .agg #[.string src, .string dst, .pointer q]] w (Tabled fb w v (wout l src)) := by
  have hvlt := fun k hk => (hv.lt k hk).2
  have HX0 := Lib.hid (Blk.new w #[.string src, .string dst, .pointer q] 179)
  have HK0 := Lib.hid ((Kept.refl (fun k => v.ownBlock = some k) w).alloc (.cells #[.string src, .string dst, .pointer q] 179))
  have HO0 := Lib.hid (ownsRow_kept hv ((Kept.refl (fun _ => False) w).alloc (.cells #[.string src, .string dst, .pointer q] 179)) (fun _ _ h => h))
  have hB : ¬ v.ownBlock = some w.heap.size := fun e => by have := hvlt _ e; omega
  have hsz0 : (w.alloc (.cells #[.string src, .string dst, .pointer q] 179)).heap.size = w.heap.size + 1 := by simp
  have HSZ := Lib.hid hsz0
  have HVL := Lib.hid hvlt
  have HBN := Lib.hid hB
  have hpl := pos_le l src
  clear hsz0 hv hvlt hB
  go_enter Tryz.func110, Tryz.ntmps110
  go_wp2_with fail
  refine (place_any fb v l src _ (IsX.own HO0.out) hs (by omega)).mono ?_
  rintro e w1 ⟨rfl, hb1⟩
  have hs1 : w.heap.size < w1.heap.size := by have := hb1.size; rw [HSZ.out] at this; omega
  have HX1 := Lib.hid (HX0.out.below hb1 (by rw [HSZ.out]; omega))
  have HK1 := Lib.hid (HK0.out.trans (Kept.of_below (S := fun _ => False) hb1 (Nat.le_refl _)) (fun _ h => h.elim))
  have HO1 := Lib.hid (ownsRow_below HO0.out hb1 (Nat.le_refl _))
  clear hb1 HX0 HK0 HO0
  rw [show (tfind l src).isSome = true from by rw [ha.out]; rfl]
  obtain ⟨c0, c1, c2⟩ := BoxD.facts HX1.out
  go_wp2_with fail
  refine (tdel_any fb v l (pos l src) _ HO1.out (wout_some hs ha.out).2 (by omega)).mono ?_
  rintro e w2 ⟨v1, rfl, hown2, hk2, hob⟩
  rw [(wout_some hs ha.out).1] at hown2
  have hs2 : w.heap.size < w2.heap.size := Nat.lt_of_lt_of_le hs1 hk2.size
  have HX2 := Lib.hid (HX1.out.kept hk2 HBN.out)
  have HK2 := Lib.hid (HK1.out.trans hk2 (fun j hj _ => hj))
  have HO2 := Lib.hid hown2
  have HOB := Lib.hid hob
  have HS2 := Lib.hid (wout_sorted hs src)
  have hl2 := wout_length l src
  clear hown2 hk2 hob HX1 HK1 HO1 hs1 c0 c1 c2
  obtain ⟨c0, c1, c2⟩ := BoxD.facts HX2.out
  have he : dst.toList.isEmpty = true := by rw [hd.out]; exact empty_toList
  go_wp2
  go_ret
  exact Tabled.mk HO2.out HK2.out (fun k hk => .inl (by rw [← (show v1.ownBlock = v.ownBlock from HOB.out)]; exact hk))

set_option maxRecDepth 100000 in
set_option maxHeartbeats 4000000 in
theorem behind_1s (fb : Nat → Nat) (v : Value) (l : Tbl) (src dst : ByteArray) (q : Option Addr) (f : Nat) (w : World) (hv : w.ownsRow 0 169 2 v l.length (row (ent fb) l)) (hs : Sorted l) (hl : l.length ≤ 1048575) (f0 : Nat) (ha : Hid (tfind l src = some f0)) (hd : Hid (dst ≠ noName)) (hq : Hid (q = some ⟨fb f, 0, none⟩)) (g0 : Nat) (hg : Hid (tfind (wout l src) dst = some g0)) :
    Calls Tryz.prog 110 #[v, .agg #[.string src, .string dst, .pointer q]] w (Tabled fb w v (wth (wout l src) dst f)) := by
  have hvlt := fun k hk => (hv.lt k hk).2
  have HX0 := Lib.hid (Blk.new w #[.string src, .string dst, .pointer q] 179)
  have HK0 := Lib.hid ((Kept.refl (fun k => v.ownBlock = some k) w).alloc (.cells #[.string src, .string dst, .pointer q] 179))
  have HO0 := Lib.hid (ownsRow_kept hv ((Kept.refl (fun _ => False) w).alloc (.cells #[.string src, .string dst, .pointer q] 179)) (fun _ _ h => h))
  have hB : ¬ v.ownBlock = some w.heap.size := fun e => by have := hvlt _ e; omega
  have hsz0 : (w.alloc (.cells #[.string src, .string dst, .pointer q] 179)).heap.size = w.heap.size + 1 := by simp
  have HSZ := Lib.hid hsz0
  have HVL := Lib.hid hvlt
  have HBN := Lib.hid hB
  have hpl := pos_le l src
  clear hsz0 hv hvlt hB
  go_enter Tryz.func110, Tryz.ntmps110
  go_wp2_with fail
  refine (place_any fb v l src _ (IsX.own HO0.out) hs (by omega)).mono ?_
  rintro e w1 ⟨rfl, hb1⟩
  have hs1 : w.heap.size < w1.heap.size := by have := hb1.size; rw [HSZ.out] at this; omega
  have HX1 := Lib.hid (HX0.out.below hb1 (by rw [HSZ.out]; omega))
  have HK1 := Lib.hid (HK0.out.trans (Kept.of_below (S := fun _ => False) hb1 (Nat.le_refl _)) (fun _ h => h.elim))
  have HO1 := Lib.hid (ownsRow_below HO0.out hb1 (Nat.le_refl _))
  clear hb1 HX0 HK0 HO0
  rw [show (tfind l src).isSome = true from by rw [ha.out]; rfl]
  obtain ⟨c0, c1, c2⟩ := BoxD.facts HX1.out
  go_wp2_with fail
  refine (tdel_any fb v l (pos l src) _ HO1.out (wout_some hs ha.out).2 (by omega)).mono ?_
  rintro e w2 ⟨v1, rfl, hown2, hk2, hob⟩
  rw [(wout_some hs ha.out).1] at hown2
  have hs2 : w.heap.size < w2.heap.size := Nat.lt_of_lt_of_le hs1 hk2.size
  have HX2 := Lib.hid (HX1.out.kept hk2 HBN.out)
  have HK2 := Lib.hid (HK1.out.trans hk2 (fun j hj _ => hj))
  have HO2 := Lib.hid hown2
  have HOB := Lib.hid hob
  have HS2 := Lib.hid (wout_sorted hs src)
  have hl2 := wout_length l src
  clear hown2 hk2 hob HX1 HK1 HO1 hs1 c0 c1 c2
  obtain ⟨c0, c1, c2⟩ := BoxD.facts HX2.out
  have he : dst.toList.isEmpty = false := some_toList hd.out
  have hpt := pos_le (wout l src) dst
  go_wp2_with fail
  refine (place_any fb v1 (wout l src) dst _ (IsX.own HO2.out) HS2.out (by omega)).mono ?_
  rintro e w3 ⟨rfl, hb3⟩
  have hs3 : w.heap.size < w3.heap.size := Nat.lt_of_lt_of_le hs2 hb3.size
  have HX3 := Lib.hid (HX2.out.below hb3 hs2)
  have HK3 := Lib.hid (HK2.out.trans (Kept.of_below (S := fun _ => False) hb3 (Nat.le_refl _)) (fun _ h => h.elim))
  have HO3 := Lib.hid (ownsRow_below HO2.out hb3 (Nat.le_refl _))
  clear hb3 HX2 HK2 HO2 hs2 c0 c1 c2
  obtain ⟨c0, c1, c2⟩ := BoxD.facts HX3.out
  rw [show (tfind (wout l src) dst).isSome = true from by rw [hg.out]; rfl]
  have hat := tfind_at HS2.out hg.out
  have hpl2 : pos (wout l src) dst < (wout l src).length := (List.getElem?_eq_some_iff.1 hat).1
  obtain ⟨g, hgo, hidx, hcells, hfree, hst⟩ := indexAt_own HO3.out 85 _ Tryz.underlying85 Tryz.sizeEnt (pos (wout l src) dst) hpl2
  have hc1 := hcells 1 (by decide)
  rw [row_get (ent_len fb) hat 1 (by decide)] at hc1
  have hc1' : w3.cell? ⟨g, pos (wout l src) dst * 2 + 1, none⟩ = some (.pointer (some ⟨fb g0, 0, none⟩)) := hc1
  have hf1 := hfree (pos (wout l src) dst * 2 + 1)
  have HST := Lib.hid (hst (pos (wout l src) dst * 2 + 1) (.pointer q))
  have HG := Lib.hid hgo
  have HAT := Lib.hid hat
  clear hcells hfree hst hgo hat hc1
  go_wp2
  go_ret
  refine Tabled.mk (v' := v1) ?_ (HK3.out.setCell (p := ⟨g, pos (wout l src) dst * 2 + 1, none⟩) (.inl ?_) (.pointer q)) (fun k hk => .inl (by rw [← (show v1.ownBlock = v.ownBlock from HOB.out)]; exact hk))
  · have h := HST.out
    rw [row_set (ent_len fb) HAT.out 1 (by decide) (.pointer q) (y := (dst, f)) (by rw [hq.out]; rfl), set_pos HS2.out hg.out] at h
    have hlen : (wth (wout l src) dst f).length = (wout l src).length := by rw [← set_pos HS2.out hg.out, List.length_set]
    rw [hlen]
    exact h
  · rw [← (show v1.ownBlock = v.ownBlock from HOB.out)]
    exact HG.out

set_option maxRecDepth 100000 in
set_option maxHeartbeats 4000000 in
theorem behind_1i (fb : Nat → Nat) (v : Value) (l : Tbl) (src dst : ByteArray) (q : Option Addr) (f : Nat) (w : World) (hv : w.ownsRow 0 169 2 v l.length (row (ent fb) l)) (hs : Sorted l) (hl : l.length ≤ 1048575) (f0 : Nat) (ha : Hid (tfind l src = some f0)) (hd : Hid (dst ≠ noName)) (hq : Hid (q = some ⟨fb f, 0, none⟩)) (hg : Hid (tfind (wout l src) dst = none)) :
    Calls Tryz.prog 110 #[v, .agg #[.string src, .string dst, .pointer q]] w (Tabled fb w v (wth (wout l src) dst f)) := by
  have hvlt := fun k hk => (hv.lt k hk).2
  have HX0 := Lib.hid (Blk.new w #[.string src, .string dst, .pointer q] 179)
  have HK0 := Lib.hid ((Kept.refl (fun k => v.ownBlock = some k) w).alloc (.cells #[.string src, .string dst, .pointer q] 179))
  have HO0 := Lib.hid (ownsRow_kept hv ((Kept.refl (fun _ => False) w).alloc (.cells #[.string src, .string dst, .pointer q] 179)) (fun _ _ h => h))
  have hB : ¬ v.ownBlock = some w.heap.size := fun e => by have := hvlt _ e; omega
  have hsz0 : (w.alloc (.cells #[.string src, .string dst, .pointer q] 179)).heap.size = w.heap.size + 1 := by simp
  have HSZ := Lib.hid hsz0
  have HVL := Lib.hid hvlt
  have HBN := Lib.hid hB
  have hpl := pos_le l src
  clear hsz0 hv hvlt hB
  go_enter Tryz.func110, Tryz.ntmps110
  go_wp2_with fail
  refine (place_any fb v l src _ (IsX.own HO0.out) hs (by omega)).mono ?_
  rintro e w1 ⟨rfl, hb1⟩
  have hs1 : w.heap.size < w1.heap.size := by have := hb1.size; rw [HSZ.out] at this; omega
  have HX1 := Lib.hid (HX0.out.below hb1 (by rw [HSZ.out]; omega))
  have HK1 := Lib.hid (HK0.out.trans (Kept.of_below (S := fun _ => False) hb1 (Nat.le_refl _)) (fun _ h => h.elim))
  have HO1 := Lib.hid (ownsRow_below HO0.out hb1 (Nat.le_refl _))
  clear hb1 HX0 HK0 HO0
  rw [show (tfind l src).isSome = true from by rw [ha.out]; rfl]
  obtain ⟨c0, c1, c2⟩ := BoxD.facts HX1.out
  go_wp2_with fail
  refine (tdel_any fb v l (pos l src) _ HO1.out (wout_some hs ha.out).2 (by omega)).mono ?_
  rintro e w2 ⟨v1, rfl, hown2, hk2, hob⟩
  rw [(wout_some hs ha.out).1] at hown2
  have hs2 : w.heap.size < w2.heap.size := Nat.lt_of_lt_of_le hs1 hk2.size
  have HX2 := Lib.hid (HX1.out.kept hk2 HBN.out)
  have HK2 := Lib.hid (HK1.out.trans hk2 (fun j hj _ => hj))
  have HO2 := Lib.hid hown2
  have HOB := Lib.hid hob
  have HS2 := Lib.hid (wout_sorted hs src)
  have hl2 := wout_length l src
  clear hown2 hk2 hob HX1 HK1 HO1 hs1 c0 c1 c2
  obtain ⟨c0, c1, c2⟩ := BoxD.facts HX2.out
  have he : dst.toList.isEmpty = false := some_toList hd.out
  have hpt := pos_le (wout l src) dst
  go_wp2_with fail
  refine (place_any fb v1 (wout l src) dst _ (IsX.own HO2.out) HS2.out (by omega)).mono ?_
  rintro e w3 ⟨rfl, hb3⟩
  have hs3 : w.heap.size < w3.heap.size := Nat.lt_of_lt_of_le hs2 hb3.size
  have HX3 := Lib.hid (HX2.out.below hb3 hs2)
  have HK3 := Lib.hid (HK2.out.trans (Kept.of_below (S := fun _ => False) hb3 (Nat.le_refl _)) (fun _ h => h.elim))
  have HO3 := Lib.hid (ownsRow_below HO2.out hb3 (Nat.le_refl _))
  clear hb3 HX2 HK2 HO2 hs2 c0 c1 c2
  obtain ⟨c0, c1, c2⟩ := BoxD.facts HX3.out
  rw [show (tfind (wout l src) dst).isSome = false from by rw [hg.out]; rfl]
  have HX4 := Lib.hid (Blk.new w3 #[.string dst, .pointer q] 169)
  have HK4 := Lib.hid (HK3.out.alloc (.cells #[.string dst, .pointer q] 169))
  have HO4 := Lib.hid (ownsRow_kept HO3.out ((Kept.refl (fun _ => False) w3).alloc (.cells #[.string dst, .pointer q] 169)) (fun _ _ h => h))
  have HB4 := Lib.hid (show v1.ownBlock ≠ some w3.heap.size from fun e => by have := (HO3.out.lt _ e).2; omega)
  go_wp2_with fail
  refine (tins_any fb v1 (wout l src) dst f w3.heap.size (pos (wout l src) dst) _ HO4.out hpt (by omega) HB4.out (by have h := HX4.out; unfold Blk at h; rw [h, hq.out])).mono ?_
  rintro e w5 ⟨v5, rfl, hown5, hk5, hl5⟩
  have hK5 : Kept (fun k => v.ownBlock = some k) w w5 := HK4.out.trans hk5 (fun j hj _ => by rw [← (show v1.ownBlock = v.ownBlock from HOB.out)]; exact hj)
  have hV5 : ∀ k, v5.ownBlock = some k → v.ownBlock = some k ∨ w.heap.size ≤ k := fun k hk => by
    rcases hl5 with h | h
    · exact .inl (by rw [← (show v1.ownBlock = v.ownBlock from HOB.out), ← h]; exact hk)
    · rw [h] at hk
      have : (w3.alloc (.cells #[.string dst, .pointer q] 169)).heap.size = k := by simpa using hk
      have h2 : (w3.alloc (.cells #[.string dst, .pointer q] 169)).heap.size = w3.heap.size + 1 := by simp
      exact .inr (by omega)
  have hO5 : w5.ownsRow 0 169 2 v5 (wth (wout l src) dst f).length (row (ent fb) (wth (wout l src) dst f)) := by
    rw [ins_pos hg.out] at hown5
    have hlen : (wth (wout l src) dst f).length = (wout l src).length + 1 := by rw [wth_length, wout_none hg.out]
    rw [hlen]
    exact hown5
  have HE := Lib.hid (Tabled.mk hO5 hK5 hV5)
  clear hown5 hk5 hl5 hK5 hV5 hO5 c0 c1 c2
  go_wp2
  go_ret
  exact HE.out

theorem behind_any (fb : Nat → Nat) (v : Value) (l : Tbl) (x : Dd) (q : Option Addr) (w : World) (hv : w.ownsRow 0 169 2 v l.length (row (ent fb) l)) (hs : Sorted l) (hl : l.length ≤ 1048575) (hq : x.dst ≠ noName → q = some ⟨fb x.file, 0, none⟩) :
    Calls Tryz.prog 110 #[v, .agg #[.string x.src, .string x.dst, .pointer q]] w (Tabled fb w v (turnT l x)) := by
  unfold turnT
  cases ha : tfind l x.src with
  | none =>
    rw [wout_none ha]
    by_cases hd : x.dst = noName
    · rw [if_pos hd]
      exact behind_0e fb v l x.src x.dst q 0 w hv hs hl (Lib.hid ha) (Lib.hid hd)
    · rw [if_neg hd]
      cases hg : tfind l x.dst with
      | none => exact behind_0i fb v l x.src x.dst q x.file w hv hs hl (Lib.hid ha) (Lib.hid hd) (Lib.hid (hq hd)) (Lib.hid hg)
      | some g0 => exact behind_0s fb v l x.src x.dst q x.file w hv hs hl (Lib.hid ha) (Lib.hid hd) (Lib.hid (hq hd)) g0 (Lib.hid hg)
  | some f0 =>
    by_cases hd : x.dst = noName
    · rw [if_pos hd]
      exact behind_1e fb v l x.src x.dst q 0 w hv hs hl f0 (Lib.hid ha) (Lib.hid hd)
    · rw [if_neg hd]
      cases hg : tfind (wout l x.src) x.dst with
      | none => exact behind_1i fb v l x.src x.dst q x.file w hv hs hl f0 (Lib.hid ha) (Lib.hid hd) (Lib.hid (hq hd)) (Lib.hid hg)
      | some g0 => exact behind_1s fb v l x.src x.dst q x.file w hv hs hl f0 (Lib.hid ha) (Lib.hid hd) (Lib.hid (hq hd)) g0 (Lib.hid hg)

end Go.Proofs.YtcpoaofcfefgaaaGreatDoor
end

section
namespace Go.Proofs.YtcpoaofcfefgaaaGreatDoor
open Go.RowKit Go.Cor

theorem Tryz.infoU8 : (Tryz.prog.info? 5).map (fun i => (i.zero, i.size, i.bytes)) = some (some (.int .u8 0), 1, 1) := by kernel_rfl
theorem Tryz.sizeU8 : (Tryz.prog.info? 5).map (·.size) = some 1 := by kernel_rfl

/-- A code as an error. -/
abbrev err (k : Int) : Value := .iface 69 (.int .i64 k)

theorem greatest_1 (w : World) : Calls Tryz.prog 103 #[.int .i64 1] w fun e w' => e = .returned (.int .u64 255) ∧ w = w' := by
  go_enter Tryz.func103, Tryz.ntmps103
  go_wp2
  go_ret
  exact ⟨rfl, rfl⟩
theorem greatest_2 (w : World) : Calls Tryz.prog 103 #[.int .i64 2] w fun e w' => e = .returned (.int .u64 65535) ∧ w = w' := by
  go_enter Tryz.func103, Tryz.ntmps103
  go_wp2
  go_ret
  exact ⟨rfl, rfl⟩
theorem greatest_4 (w : World) : Calls Tryz.prog 103 #[.int .i64 4] w fun e w' => e = .returned (.int .u64 4294967295) ∧ w = w' := by
  go_enter Tryz.func103, Tryz.ntmps103
  go_wp2
  go_ret
  exact ⟨rfl, rfl⟩
theorem greatest_8 (w : World) : Calls Tryz.prog 103 #[.int .i64 8] w fun e w' => e = .returned (.int .u64 18446744073709551615) ∧ w = w' := by
  go_enter Tryz.func103, Tryz.ntmps103
  go_wp2
  go_ret
  exact ⟨rfl, rfl⟩
theorem greatest_no (s : Int) (w : World) (h1 : s ≠ 1) (h2 : s ≠ 2) (h4 : s ≠ 4) (h8 : s ≠ 8) : Calls Tryz.prog 103 #[.int .i64 s] w fun e w' => e = .returned (.int .u64 0) ∧ w = w' := by
  go_enter Tryz.func103, Tryz.ntmps103
  go_wp2
  go_ret
  exact ⟨rfl, rfl⟩

/-- The greatest number of a size. -/
def great (s : Int) : Nat := if s = 1 then 255 else if s = 2 then 65535 else if s = 4 then 4294967295 else if s = 8 then 18446744073709551615 else 0
/-- Is it a size? -/
def Sized (s : Int) : Prop := s = 1 ∨ s = 2 ∨ s = 4 ∨ s = 8

theorem great_no {s : Int} (h : ¬ Sized s) : great s = 0 := by
  simp only [Sized, not_or] at h
  simp [great, h.1, h.2.1, h.2.2.1, h.2.2.2]
theorem great_pos {s : Int} (h : Sized s) : 0 < great s := by
  rcases h with rfl | rfl | rfl | rfl <;> decide

theorem greatest_any (s : Int) (w : World) : Calls Tryz.prog 103 #[.int .i64 s] w fun e w' => e = .returned (.int .u64 (great s : Nat)) ∧ w = w' := by
  by_cases h : Sized s
  · rcases h with rfl | rfl | rfl | rfl
    · exact greatest_1 w
    · exact greatest_2 w
    · exact greatest_4 w
    · exact greatest_8 w
  · rw [great_no h]
    simp only [Sized, not_or] at h
    exact greatest_no s w h.1 h.2.1 h.2.2.1 h.2.2.2

theorem put_step {n k m len : Nat} {l : List UInt8} {w wr w1 : World} {v v' : Value} {o : Obj} (hm : Hid (m = n / 256 ^ k))
    (hown' : w1.ownsRow w.heap.size 5 1 v' (len + k + 1) (bvs (l ++ le n k) ++ [.int .u8 ((m : Int) % 256)])) (hg : (wr.alloc o).grownBy w1 v.ownBlock) (hb : Below w.heap.size w wr)
    (hown : wr.ownsRow w.heap.size 5 1 v (len + k) (bvs (l ++ le n k))) :
    Hid (m / 256 = n / 256 ^ (k + 1)) ∧ w1.ownsRow w.heap.size 5 1 v' (len + (k + 1)) (bvs (l ++ le n (k + 1))) ∧ Below w.heap.size w w1 := by
  have hm := hm.out
  refine ⟨?_, ?_, (hb.alloc hb.size o).grown hg (by have := hb.size; simp; omega) (fun j hj => (hown.lt j hj).1)⟩
  · show _ = _
    rw [hm, Nat.div_div_eq_div_mul, Nat.pow_succ]
  · rw [le_snoc, ← List.append_assoc, bvs_append, bvs_cons, bvs_nil]
    have e : bv (UInt8.ofNat (n / 256 ^ k)) = .int .u8 ((m : Int) % 256) := by
      rw [← hm]
      show Value.int .u8 (((UInt8.ofNat m).toNat : Nat) : Int) = _
      rw [UInt8.toNat_ofNat']
      simp
    rw [e]
    exact hown'

set_option maxHeartbeats 400000 in
theorem put_ok (v : Value) (l : List UInt8) (n : Nat) (s : Nat) (w : World) (h : Sized (s : Int)) (hn : n ≤ great (s : Int)) (hv : IsB w v l) (hl : l.length ≤ 1099511627776) :
    Calls Tryz.prog 74 #[v, .int .u64 n, .int .i64 (s : Int)] w fun e w' =>
      ∃ v', e = .returned (.tuple #[v', .nilIface]) ∧ w'.ownsRow w.heap.size 5 1 v' (l ++ le n s).length (bvs (l ++ le n s)) ∧ Below w.heap.size w w' := by
  have h0 := great_pos h
  have hq1 : (((great (s : Int) : Nat) : Int) == 0) = false := by simp; omega
  have hq2 : decide (great (s : Int) < n) = false := by simp; omega
  have hs8 : s ≤ 8 := by unfold Sized at h; omega
  have hn64 : n < 18446744073709551616 := by
    have : great (s : Int) ≤ 18446744073709551615 := by rcases h with h | h | h | h <;> rw [h] <;> decide
    omega
  obtain ⟨i0, hi, hz0, hz1, hz2⟩ := info_parts Tryz.infoU8
  have hmk : ∀ wx : World, (Instr.makeSlice 53 (.int .i64 (l.length : Int)) (.int .i64 ((l.length : Int) + (s : Int)))).run Tryz.prog wx = .ok (.slice (some ⟨wx.heap.size, 0, none⟩) l.length (l.length + s)) (wx.alloc (.cells (madeCells #[.int .u8 0] (l.length + s)) 5)) := fun wx => by
    have := run_make (P := Tryz.prog) wx 53 5 i0 (.int .u8 0) Tryz.underlying53 hi hz0 .i64 .i64 l.length ((l.length : Int) + (s : Int)) (by omega) (by omega) (by rw [hz2]; omega) (by omega)
    rw [this, hz1]
    simp [show ((l.length : Int) + (s : Int)).toNat = l.length + s from by omega, Value.cells]
  obtain ⟨w2, hcp, hown2, hbel2⟩ := copy_made (P := Tryz.prog) w 53 5 3 Tryz.underlying53 Tryz.sizeU8 v l hv s (by unfold maxLen; omega)
  obtain ⟨a, cap, rfl, hlc, hcm, hnc, hcell⟩ := hv
  clear hcell hnc
  go_enter Tryz.func74, Tryz.ntmps74
  go_wp2_with (go_at_call 103; refine (greatest_any s _).mono ?_; rintro e w' ⟨rfl, rfl⟩)
  go_loopw [1, 9, 30] (fun n' o c wr => ∃ k m : Nat, k ≤ s ∧ m < 18446744073709551616 ∧ Hid (m = n / 256 ^ k) ∧ n' = .int .u64 (m : Int) ∧ c = .int .i64 k ∧ wr.ownsRow w.heap.size 5 1 o (l.length + k) (bvs (l ++ le n k)) ∧ Below w.heap.size w wr) (fun _ _ c _ => s - (intOf c).toNat)
  case atStart => exact ⟨0, n, by omega, hn64, by show n = _; simp, rfl, rfl, by simpa [le] using hown2, hbel2⟩
  case round =>
    obtain ⟨k, m, hk, hm64, hmk, rfl, rfl, hown, hbel⟩ := hrel
    have hsz : w.heap.size ≤ wr.heap.size := hbel.size
    by_cases hlt : k < s
    · go_wp2_with (at_builtin; refine wpList_append_own _ rfl _ _ 53 rfl w.heap.size 5 i0 (.int .u8 0) 1 1 Tryz.underlying53 hi hz0 hz1 hz2 rfl (by decide) _ _ _ rfl (hown.alloc _) ⟨wr.heap.size, 0, none⟩ 1 1 [.int .u8 ((m : Int) % 256)] rfl rfl ?c1 ?c2 ?c3 ?c4 ?c5 ?_)
      case c1 => exact cell_one_new _ _ _
      case c2 => intro u hu; simp at hu; subst hu; rfl
      case c3 => unfold maxLen; omega
      case c4 => omega
      case c5 => simp; omega
      intro v' w1 hown' hgrow _
      have hnext := put_step hmk hown' hgrow hbel hown
      clear hown' hgrow
      go_wp2
      go_roundw
      case rel => exact ⟨k + 1, m / 256, by omega, by omega, hnext.1, by go_num, by go_num, hnext.2.1, hnext.2.2⟩
      case measure => simp [intOf]; omega
    · obtain rfl : k = s := by omega
      go_wp2
      go_ret2
      exact ⟨_, rfl, by simpa [length_le] using hown, hbel⟩

theorem get_step {l : List UInt8} {a s j m : Nat} (hm : Hid (m = num ((l.drop (a + (j + 1))).take (s - (j + 1))))) (hj : j + 1 ≤ s) (hs : s ≤ 8) (hl : a + s ≤ l.length) :
    (l[a + j]?.getD 0).toNat + 256 * m < 18446744073709551616 ∧ Hid ((l[a + j]?.getD 0).toNat + 256 * m = num ((l.drop (a + j)).take (s - j))) ∧
    Hid (bits .or .u64 ((m : Int) * 256) ((l[a + j]?.getD 0).toNat : Int) = (((l[a + j]?.getD 0).toNat + 256 * m : Nat) : Int)) := by
  have hm := hm.out
  have h1 := num_take_lt (l.drop (a + (j + 1))) (s - (j + 1)) (by omega)
  rw [← hm] at h1
  have h2 := (l[a + j]?.getD 0).toNat_lt
  refine ⟨by omega, ?_, shl8_or _ _ h1 h2⟩
  show _ = _
  rw [show s - j = (s - (j + 1)) + 1 from by omega, num_take_step l (a + j) _ (by omega), hm]
  rfl

set_option maxHeartbeats 400000 in
theorem get_ok (v : Value) (l : List UInt8) (a s : Nat) (w : World) (hs : Sized (s : Int)) (hv : IsB w v l) (hl : l.length ≤ 1099511627776) (h : a + s ≤ l.length) :
    Calls Tryz.prog 117 #[v, .int .i64 a, .int .i64 s] w fun e w' => e = .returned (.tuple #[.int .u64 (num ((l.drop a).take s) : Nat), .nilIface]) ∧ w = w' := by
  have h0 := great_pos hs
  have hs8 : s ≤ 8 := by unfold Sized at hs; omega
  have hs1 : 1 ≤ s := by unfold Sized at hs; omega
  have hq1 : (((great (s : Int) : Nat) : Int) == 0) = false := by simp; omega
  have hq2 : decide ((l.length : Int) - (s : Int) < (a : Int)) = false := by simp; omega
  obtain ⟨x, cap, rfl, hlc, hcm, hnc, hcell⟩ := hv
  rcases hcell with hE | ⟨b, off, rfl, hc⟩
  · omega
  have HC := Lib.hid hc
  clear hc hnc
  go_enter Tryz.func117, Tryz.ntmps117
  go_wp2_with (go_at_call 103; refine (greatest_any s _).mono ?_; rintro e w' ⟨rfl, rfl⟩)
  go_loop [8, 9] (fun n' c => ∃ k m : Nat, k ≤ s ∧ m < 18446744073709551616 ∧ Hid (m = num ((l.drop (a + k)).take (s - k))) ∧ n' = .int .u64 (m : Int) ∧ c = .int .i64 ((k : Int) - 1)) (fun _ c => (intOf c + 1).toNat)
  case atStart => exact ⟨s, 0, by omega, by omega, by show 0 = _; simp [num], rfl, rfl⟩
  case round =>
    obtain ⟨k, m, hk, hm64, hmk, rfl, rfl⟩ := hrel
    by_cases hlt : 0 < k
    · obtain ⟨j, rfl⟩ : ∃ j, k = j + 1 := ⟨k - 1, by omega⟩
      have hcell := HC.out (a + j) (by omega)
      have hst := get_step (l := l) (a := a) (s := s) (j := j) (m := m) hmk (by omega) (by omega) (by omega)
      have hmk := 0
      go_wp2
      go_round
      case rel => exact ⟨j, _, by omega, hst.1, hst.2.1, by rw [hst.2.2.out], by go_num⟩
      case measure => simp [intOf]
    · obtain rfl : k = 0 := by omega
      have hmk := hmk.out
      subst hmk
      go_wp2
      go_ret2
      exact ⟨by simp, rfl⟩

/-- What lacks up to a multiple of 8. -/
def pad (n : Int) : Int := if n < 0 then 0 else (8 - n % 8) % 8
theorem pad_neg {n : Int} (h : n < 0) : pad n = 0 := by simp [pad, h]
theorem pad_pos {n : Int} (h : 0 ≤ n) : pad n = (8 - n % 8) % 8 := by simp [pad, Int.not_lt.2 h]
theorem pad_range (n : Int) : 0 ≤ pad n ∧ pad n < 8 := by
  unfold pad
  split <;> omega

theorem pad_any (n : Int) (w : World) (h1 : -9223372036854775808 ≤ n) (h2 : n ≤ 9223372036854775807) :
    Calls Tryz.prog 116 #[.int .i64 n] w fun e w' => e = .returned (.int .i64 (pad n)) ∧ w = w' := by
  by_cases h : n < 0
  · rw [pad_neg h]
    go_enter Tryz.func116, Tryz.ntmps116
    go_wp2
    go_ret
    exact ⟨rfl, rfl⟩
  · have h' : 0 ≤ n := by omega
    rw [pad_pos h']
    go_enter Tryz.func116, Tryz.ntmps116
    go_wp2
    go_ret
    exact ⟨rfl, rfl⟩

theorem zero_yes (v : Value) (l : List UInt8) (w : World) (hv : IsB w v l) (hl : l.length ≤ 1099511627776) (h : ∀ i, i < l.length → l.getD i 0 = 0) :
    Calls Tryz.prog 97 #[v] w fun e w' => e = .returned (.bool true) ∧ w = w' := by
  obtain ⟨x, cap, rfl, hlc, hcm, hnc, hcell⟩ := hv
  have HC : Hid (∀ i, i < l.length → ∃ b off, x = some ⟨b, off, none⟩ ∧ w.cell? ⟨b, off + i, none⟩ = some (.int .u8 0)) := by
    intro i hi
    rcases hcell with hE | ⟨b, off, rfl, hc⟩
    · omega
    · have := hc i hi
      rw [h i hi] at this
      exact ⟨b, off, rfl, this⟩
  clear hcell hnc h
  go_enter Tryz.func97, Tryz.ntmps97
  go_wp2
  go_loop [7] (fun c => ∃ k : Nat, k ≤ l.length ∧ c = .int .i64 k) (fun c => l.length - (intOf c).toNat)
  case atStart => exact ⟨0, by omega, rfl⟩
  case round =>
    obtain ⟨k, hk, rfl⟩ := hrel
    by_cases hlt : k < l.length
    · obtain ⟨b, off, rfl, hc⟩ := HC.out k hlt
      go_wp2
      go_round
      case rel => exact ⟨k + 1, by omega, by go_num⟩
      case measure => simp [intOf]; omega
    · go_wp2
      go_ret
      exact ⟨rfl, rfl⟩

theorem zero_no (v : Value) (l : List UInt8) (p : Nat) (w : World) (hv : IsB w v l) (hl : l.length ≤ 1099511627776) (hp : p < l.length) (hn : l.getD p 0 ≠ 0) (h : ∀ i, i < p → l.getD i 0 = 0) :
    Calls Tryz.prog 97 #[v] w fun e w' => e = .returned (.bool false) ∧ w = w' := by
  obtain ⟨x, cap, rfl, hlc, hcm, hnc, hcell⟩ := hv
  rcases hcell with hE | ⟨b, off, rfl, hc⟩
  · omega
  have HC : Hid (∀ i, i < p → w.cell? ⟨b, off + i, none⟩ = some (.int .u8 0)) := by
    intro i hi
    have := hc i (by omega)
    rw [h i hi] at this
    exact this
  have hcp := hc p hp
  have hx : (((l.getD p 0).toNat : Int) == 0) = false := by
    simp only [beq_eq_false_iff_ne]
    intro h0
    exact hn (UInt8.toNat_inj.1 (by simp at h0 ⊢; omega))
  generalize (l.getD p 0) = y at hcp hx
  clear hc hnc h hn
  go_enter Tryz.func97, Tryz.ntmps97
  go_wp2
  go_loop [7] (fun c => ∃ k : Nat, k ≤ p ∧ c = .int .i64 k) (fun c => l.length - (intOf c).toNat)
  case atStart => exact ⟨0, by omega, rfl⟩
  case round =>
    obtain ⟨k, hk, rfl⟩ := hrel
    by_cases hlt : k < p
    · have hc := HC.out k hlt
      have hkl : k < l.length := by omega
      go_wp2
      go_round
      case rel => exact ⟨k + 1, by omega, by go_num⟩
      case measure => simp [intOf]; omega
    · obtain rfl : k = p := by omega
      go_wp2
      go_ret
      exact ⟨rfl, rfl⟩

end Go.Proofs.YtcpoaofcfefgaaaGreatDoor
end

section
namespace Go.Proofs.YtcpoaofcfefgaaaGreatDoor
open Go.RowKit Go.Cor

/-- A code as an error. -/
abbrev ercode (k : Nat) : Value := .iface 69 (.int .i64 (k : Int))
def cerr (k : Nat) : Value := if k = 0 then .nilIface else ercode k
theorem cerr_0 : cerr 0 = .nilIface := rfl
theorem cerr_pos {k : Nat} (h : k ≠ 0) : cerr k = ercode k := if_neg h

theorem Tryz.infoDeed : (Tryz.prog.info? 179).map (fun i => (i.zero, i.size, i.bytes)) = some (some (.agg #[.string ⟨#[]⟩, .string ⟨#[]⟩, .pointer none]), 3, 40) := by kernel_rfl
/-- A deed as cells. -/
def dptr (fb : Nat → Nat) (x : Dd) : Option Addr := if x.dst = noName then none else some ⟨fb x.file, 0, none⟩
def ddc (fb : Nat → Nat) (x : Dd) : List Value := [.string x.src, .string x.dst, .pointer (dptr fb x)]
/-- Where the pieces of a disk lie: its box, its tables, its deeds; of file number k its box and its bytes. -/
structure Lay where
  p : Nat
  now : Value
  las : Value
  dee : Value
  fb : Nat → Nat
  fv : Nat → Value
  left : Int
  cr : Nat
inductive Tg where
  | dsk | now | las | dee | box (k : Nat) | byt (k : Nat)
  deriving DecidableEq
def Lay.own (L : Lay) (n : Nat) : Tg → Option Nat
  | .dsk => some L.p
  | .now => L.now.ownBlock
  | .las => L.las.ownBlock
  | .dee => L.dee.ownBlock
  | .box k => if k < n then some (L.fb k) else none
  | .byt k => if k < n then (L.fv k).ownBlock else none
/-- No two pieces lie in one block. -/
def Apt (f : Tg → Option Nat) : Prop := ∀ t u b, f t = some b → f u = some b → t = u

/-- Tables, deeds, files. -/
structure Rest (w : World) (L : Lay) (d : Dsk) : Prop where
  now : w.ownsRow 0 169 2 L.now d.now.length (row (ent L.fb) d.now)
  las : w.ownsRow 0 169 2 L.las d.las.length (row (ent L.fb) d.las)
  dee : w.ownsRow 0 179 3 L.dee d.deeds.length (row (ddc L.fb) d.deeds)
  box : ∀ k, k < d.files.length → Blk w (L.fb k) #[.int .i64 (k : Int), L.fv k, .int .i64 ((fat d.files k).lasts : Int)] 177
  byt : ∀ k, k < d.files.length → w.ownsRow 0 5 1 (L.fv k) (fat d.files k).b.length (bvs (fat d.files k).b)
  apt : Apt (L.own d.files.length)
  plt : L.p < w.heap.size

theorem Rest.lt {w : World} {L : Lay} {d : Dsk} (h : Rest w L d) : ∀ t b, L.own d.files.length t = some b → b < w.heap.size := by
  intro t b hb
  cases t with
  | dsk => cases hb; exact h.plt
  | now => exact (h.now.lt b hb).2
  | las => exact (h.las.lt b hb).2
  | dee => exact (h.dee.lt b hb).2
  | box k =>
    simp only [Lay.own] at hb
    split at hb
    · cases hb; exact (h.box k (by assumption)).lt
    · cases hb
  | byt k =>
    simp only [Lay.own] at hb
    split at hb
    · exact ((h.byt k (by assumption)).lt b hb).2
    · cases hb
theorem own_box {L : Lay} {n k : Nat} (h : k < n) : L.own n (.box k) = some (L.fb k) := if_pos h
theorem own_byt {L : Lay} {n k : Nat} (h : k < n) : L.own n (.byt k) = (L.fv k).ownBlock := if_pos h

/-- Whatever touches none of its blocks leaves it. -/
theorem Rest.kept {S : Nat → Prop} {w w' : World} {L : Lay} {d : Dsk} (h : Rest w L d) (hk : Kept S w w') (hs : ∀ t b, L.own d.files.length t = some b → ¬ S b) : Rest w' L d where
  now := ownsRow_kept h.now hk (fun k e => hs .now k e)
  las := ownsRow_kept h.las hk (fun k e => hs .las k e)
  dee := ownsRow_kept h.dee hk (fun k e => hs .dee k e)
  box k hl := (h.box k hl).kept hk (hs (.box k) _ (own_box hl))
  byt k hl := ownsRow_kept (h.byt k hl) hk (fun j e => hs (.byt k) j ((own_byt hl).trans e))
  apt := h.apt
  plt := Nat.lt_of_lt_of_le h.plt hk.size
theorem Rest.below {w w' : World} {L : Lay} {d : Dsk} {B : Nat} (h : Rest w L d) (hb : Below B w w') (hB : w.heap.size ≤ B) : Rest w' L d := h.kept (Kept.of_below (S := fun _ => False) hb hB) (fun _ _ _ h => h)

/-- The number in the disk's box: of the deeds that are left. -/
def lft (L : Lay) (d : Dsk) : Int := match d.armed with | some n => (n : Int) | none => L.left
def dcells (L : Lay) (d : Dsk) : Array Value := #[.int .i64 (d.cap : Int), .int .i64 (L.cr : Int), L.now, L.las, L.dee, .bool d.armed.isSome, .int .i64 (lft L d)]
structure At (w : World) (L : Lay) (d : Dsk) : Prop where
  blk : Blk w L.p (dcells L d) 88
  rest : Rest w L d
theorem At.below {w w' : World} {L : Lay} {d : Dsk} {B : Nat} (h : At w L d) (hb : Below B w w') (hB : w.heap.size ≤ B) : At w' L d := ⟨h.blk.below hb (Nat.lt_of_lt_of_le h.blk.lt hB), h.rest.below hb hB⟩
theorem At.kept {S : Nat → Prop} {w w' : World} {L : Lay} {d : Dsk} (h : At w L d) (hk : Kept S w w') (hs : ∀ t b, L.own d.files.length t = some b → ¬ S b) : At w' L d := ⟨h.blk.kept hk (hs .dsk _ rfl), h.rest.kept hk hs⟩
theorem box_facts {w : World} {p : Nat} {a0 a1 a2 a3 a4 a5 a6 : Value} {T : TypeId} (h : Blk w p #[a0, a1, a2, a3, a4, a5, a6] T) :
    w.cell? ⟨p, 0, none⟩ = some a0 ∧ w.cell? ⟨p, 1, none⟩ = some a1 ∧ w.cell? ⟨p, 2, none⟩ = some a2 ∧ w.cell? ⟨p, 3, none⟩ = some a3 ∧ w.cell? ⟨p, 4, none⟩ = some a4 ∧ w.cell? ⟨p, 5, none⟩ = some a5 ∧ w.cell? ⟨p, 6, none⟩ = some a6 :=
  ⟨h.cell 0 rfl, h.cell 1 rfl, h.cell 2 rfl, h.cell 3 rfl, h.cell 4 rfl, h.cell 5 rfl, h.cell 6 rfl⟩

/-- Down, of any box. -/
theorem down_no (w : World) (p : Nat) (a0 a1 a2 a3 a4 a6 : Value) (T : TypeId) (h : Blk w p #[a0, a1, a2, a3, a4, .bool false, a6] T) :
    Calls Tryz.prog 105 #[.pointer (some ⟨p, 0, none⟩)] w fun e w' => e = .returned (.bool false) ∧ w = w' := by
  obtain ⟨_, _, _, _, _, c5, _⟩ := box_facts h
  clear h
  go_enter Tryz.func105, Tryz.ntmps105
  go_wp2
  go_ret
  exact ⟨rfl, rfl⟩
theorem down_yes (w : World) (p : Nat) (a0 a1 a2 a3 a4 : Value) (n : Nat) (T : TypeId) (h : Blk w p #[a0, a1, a2, a3, a4, .bool true, .int .i64 (n : Int)] T) :
    Calls Tryz.prog 105 #[.pointer (some ⟨p, 0, none⟩)] w fun e w' => e = .returned (.bool (n == 0)) ∧ w = w' := by
  obtain ⟨_, _, _, _, _, c5, c6⟩ := box_facts h
  obtain ⟨r, hr⟩ : ∃ r, (n == 0) = r := ⟨_, rfl⟩
  have hr' : ((n : Int) == 0) = r := by
    rw [← hr]
    cases n with
    | zero => rfl
    | succ n =>
      simp
      omega
  rw [hr]
  clear h hr
  go_enter Tryz.func105, Tryz.ntmps105
  go_wp2
  go_ret
  exact ⟨rfl, rfl⟩
def isDown (a : Option Nat) : Bool := a == some 0
theorem down_any (w : World) (L : Lay) (d : Dsk) (h : Blk w L.p (dcells L d) 88) :
    Calls Tryz.prog 105 #[.pointer (some ⟨L.p, 0, none⟩)] w fun e w' => e = .returned (.bool (isDown d.armed)) ∧ w = w' := by
  unfold dcells lft at h
  cases ha : d.armed with
  | none =>
    rw [ha] at h
    exact down_no w L.p _ _ _ _ _ _ _ h
  | some n =>
    rw [ha] at h
    exact down_yes w L.p _ _ _ _ _ n _ h
theorem up_any (w : World) (L : Lay) (d : Dsk) (h : Blk w L.p (dcells L d) 88) :
    Calls Tryz.prog 76 #[.pointer (some ⟨L.p, 0, none⟩)] w fun e w' => e = .returned (if isDown d.armed = true then ercode 12 else .nilIface) ∧ w = w' := by
  have H := Lib.hid h
  cases ha : isDown d.armed with
  | true =>
    go_enter Tryz.func76, Tryz.ntmps76
    go_wp2_with fail
    refine (down_any _ L d H.out).mono ?_
    rintro e w' ⟨rfl, rfl⟩
    rw [ha]
    go_wp2
    go_ret
    exact ⟨rfl, rfl⟩
  | false =>
    go_enter Tryz.func76, Tryz.ntmps76
    go_wp2_with fail
    refine (down_any _ L d H.out).mono ?_
    rintro e w' ⟨rfl, rfl⟩
    rw [ha]
    go_wp2
    go_ret
    exact ⟨rfl, rfl⟩
theorem up_nil (w : World) : Calls Tryz.prog 76 #[.pointer none] w fun e w' => e = .returned (ercode 15) ∧ w = w' := by
  go_enter Tryz.func76, Tryz.ntmps76
  go_wp2
  go_ret
  exact ⟨rfl, rfl⟩

/-- find, by its three ends. -/
theorem find_down (w : World) (L : Lay) (d : Dsk) (n : ByteArray) (h : At w L d) (hd : isDown d.armed = true) :
    Calls Tryz.prog 80 #[.pointer (some ⟨L.p, 0, none⟩), .string n] w fun e w' => e = .returned (.tuple #[.pointer none, ercode 12]) ∧ Below w.heap.size w w' := by
  have H := Lib.hid h.blk
  have HD := Lib.hid hd
  clear h hd
  go_enter Tryz.func80, Tryz.ntmps80
  go_wp2_with fail
  refine (up_any _ L d H.out).mono ?_
  rintro e w' ⟨rfl, rfl⟩
  rw [HD.out, if_pos rfl]
  go_wp2
  go_ret2
  exact ⟨rfl, Below.refl _ _⟩
theorem find_none (w : World) (L : Lay) (d : Dsk) (n : ByteArray) (h : At w L d) (hd : isDown d.armed = false) (hs : Sorted d.now) (hl : d.now.length ≤ 1048576) (hf : tfind d.now n = none) :
    Calls Tryz.prog 80 #[.pointer (some ⟨L.p, 0, none⟩), .string n] w fun e w' => e = .returned (.tuple #[.pointer none, ercode 6]) ∧ Below w.heap.size w w' := by
  have H := Lib.hid h.blk
  have HR := Lib.hid h.rest.now
  have HD := Lib.hid hd
  have HF := Lib.hid hf
  obtain ⟨_, _, c2, _, _, _, _⟩ := box_facts h.blk
  clear h hd hf
  go_enter Tryz.func80, Tryz.ntmps80
  go_wp2_with fail
  refine (up_any _ L d H.out).mono ?_
  rintro e w' ⟨rfl, rfl⟩
  rw [HD.out, if_neg (by decide)]
  go_wp2_with fail
  refine (place_any L.fb L.now d.now n _ (IsX.own HR.out) hs hl).mono ?_
  rintro e w1 ⟨rfl, hb⟩
  rw [show (tfind d.now n).isSome = false from by rw [HF.out]; rfl]
  have HB := Lib.hid hb
  clear hb c2
  go_wp2
  go_ret2
  exact ⟨rfl, HB.out⟩
theorem find_some (w : World) (L : Lay) (d : Dsk) (n : ByteArray) (k : Nat) (h : At w L d) (hd : isDown d.armed = false) (hs : Sorted d.now) (hl : d.now.length ≤ 1048576) (hf : tfind d.now n = some k) :
    Calls Tryz.prog 80 #[.pointer (some ⟨L.p, 0, none⟩), .string n] w fun e w' => e = .returned (.tuple #[.pointer (some ⟨L.fb k, 0, none⟩), .nilIface]) ∧ Below w.heap.size w w' := by
  have H := Lib.hid h.blk
  have HR := Lib.hid h.rest.now
  have HD := Lib.hid hd
  have HF := Lib.hid hf
  have HL := Lib.hid h.rest.plt
  obtain ⟨_, _, c2, _, _, _, _⟩ := box_facts h.blk
  clear h hd hf
  go_enter Tryz.func80, Tryz.ntmps80
  go_wp2_with fail
  refine (up_any _ L d H.out).mono ?_
  rintro e w' ⟨rfl, rfl⟩
  rw [HD.out, if_neg (by decide)]
  go_wp2_with fail
  refine (place_any L.fb L.now d.now n _ (IsX.own HR.out) hs hl).mono ?_
  rintro e w1 ⟨rfl, hb⟩
  rw [show (tfind d.now n).isSome = true from by rw [HF.out]; rfl]
  have HB := Lib.hid hb
  clear hb c2
  obtain ⟨_, _, c2, _, _, _, _⟩ := box_facts (H.out.below HB.out HL.out)
  obtain ⟨b, o, hidx, hob, k0, k1⟩ := indexAt_T (IsX.own (ownsRow_below HR.out HB.out (Nat.le_refl _))) 85 Tryz.underlying85 (tfind_at hs HF.out)
  go_wp2
  go_ret2
  exact ⟨rfl, HB.out⟩

end Go.Proofs.YtcpoaofcfefgaaaGreatDoor
end

section
namespace Go.Proofs.YtcpoaofcfefgaaaGreatDoor
open Go.RowKit Go.Cor

theorem isDown_false {a : Option Nat} (h : isDown a = false) : a ≠ some 0 := by
  rintro rfl
  cases h
theorem isDown_true {a : Option Nat} (h : isDown a = true) : a = some 0 := by
  simpa [isDown] using h

theorem done_no (w : World) (p : Nat) (a0 a1 a2 a3 a4 a6 : Value) (T : TypeId) (h : Blk w p #[a0, a1, a2, a3, a4, .bool false, a6] T) :
    Calls Tryz.prog 82 #[.pointer (some ⟨p, 0, none⟩)] w fun e w' => e = .returned (.tuple #[]) ∧ w = w' := by
  obtain ⟨_, _, _, _, _, c5, _⟩ := box_facts h
  clear h
  go_enter Tryz.func82, Tryz.ntmps82
  go_wp2
  go_end0
  exact ⟨rfl, rfl⟩
theorem done_yes (w : World) (p : Nat) (a0 a1 a2 a3 a4 : Value) (n : Nat) (T : TypeId) (hn : n < 9223372036854775807) (h : Blk w p #[a0, a1, a2, a3, a4, .bool true, .int .i64 ((n + 1 : Nat) : Int)] T) :
    Calls Tryz.prog 82 #[.pointer (some ⟨p, 0, none⟩)] w fun e w' => e = .returned (.tuple #[]) ∧ w' = w.setCell ⟨p, 6, none⟩ (.int .i64 (n : Int)) := by
  obtain ⟨_, _, _, _, _, c5, c6⟩ := box_facts h
  have f6 := h.free 6
  have e1 : ((n + 1 : Nat) : Int) - 1 = (n : Int) := by omega
  rw [show ((n + 1 : Nat) : Int) = (n : Int) + 1 from rfl] at c6 e1
  clear h
  go_enter Tryz.func82, Tryz.ntmps82
  go_wp2
  go_end0
  exact ⟨rfl, rfl⟩
theorem done_any (w : World) (L : Lay) (d : Dsk) (h : At w L d) (hd : isDown d.armed = false) (ha : ∀ n, d.armed = some n → n < 9223372036854775808) :
    Calls Tryz.prog 82 #[.pointer (some ⟨L.p, 0, none⟩)] w fun e w' => e = .returned (.tuple #[]) ∧ At w' L d.done ∧ Kept (fun k => some L.p = some k) w w' := by
  have hb := h.blk
  unfold dcells lft at hb
  cases he : d.armed with
  | none =>
    rw [he] at hb
    refine (done_no w L.p _ _ _ _ _ _ _ hb).mono ?_
    rintro e w' ⟨rfl, rfl⟩
    have hd' : d.done = d := by unfold Dsk.done; rw [he]; cases d; simp_all
    rw [hd']
    exact ⟨rfl, h, Kept.refl _ _⟩
  | some n =>
    rw [he] at hb
    cases n with
    | zero => exact absurd he (isDown_false hd)
    | succ n =>
      refine (done_yes w L.p _ _ _ _ _ n _ (by have := ha _ he; omega) hb).mono ?_
      rintro e w' ⟨rfl, rfl⟩
      have hk : Kept (fun k => some L.p = some k) w (w.setCell ⟨L.p, 6, none⟩ (.int .i64 (n : Int))) := (Kept.refl (fun k => some L.p = some k) w).setCell (p := ⟨L.p, 6, none⟩) (.inl rfl) _
      refine ⟨rfl, ⟨?_, ?_⟩, hk⟩
      · have := hb.set 6 (.int .i64 (n : Int))
        unfold dcells lft Dsk.done
        rw [he]
        exact this
      · have hr := h.rest
        exact ⟨ownsRow_kept hr.now hk (fun k e e2 => by cases hr.apt .now .dsk k e e2), ownsRow_kept hr.las hk (fun k e e2 => by cases hr.apt .las .dsk k e e2), ownsRow_kept hr.dee hk (fun k e e2 => by cases hr.apt .dee .dsk k e e2),
          fun k hl => (hr.box k hl).kept hk (fun e2 => by cases hr.apt (.box k) .dsk _ (own_box hl) e2), fun k hl => ownsRow_kept (hr.byt k hl) hk (fun j e e2 => by cases hr.apt (.byt k) .dsk j ((own_byt hl).trans e) e2), hr.apt, Nat.lt_of_lt_of_le hr.plt hk.size⟩

theorem lastNames_any (w : World) (p : Nat) (a0 a1 a3 a4 a5 a6 now : Value) (l : Tbl) (fb : Nat → Nat) (hB : Blk w p #[a0, a1, now, a3, a4, a5, a6] 88) (hn : w.ownsRow 0 169 2 now l.length (row (ent fb) l)) (hl : l.length ≤ 1048576) :
    Calls Tryz.prog 85 #[.pointer (some ⟨p, 0, none⟩)] w fun e w' => e = .returned (.tuple #[]) ∧
      ∃ v', Blk w' p #[a0, a1, now, v', .slice none 0 0, a5, a6] 88 ∧ w'.ownsRow w.heap.size 169 2 v' l.length (row (ent fb) l) ∧ Kept (fun k => some p = some k) w w' := by
  obtain ⟨_, _, c2, c3, c4, _, _⟩ := box_facts hB
  have HB := Lib.hid hB
  have hp := hB.lt
  have HN := Lib.hid (IsX.own hn)
  clear hB hn
  go_enter Tryz.func85, Tryz.ntmps85
  go_wp2_with fail
  refine (tclone_any fb now l _ HN.out hl).mono ?_
  rintro e w1 ⟨v', rfl, hown, hb⟩
  obtain ⟨x, c, rfl, hc1, hc2⟩ := ownsRow_slice hown
  have HB1 := Lib.hid (HB.out.below hb hp)
  have HK1 := Lib.hid (Kept.of_below (S := fun k => some p = some k) hb (Nat.le_refl _))
  have HO := Lib.hid hown
  clear c2 c3 c4
  obtain ⟨_, _, c2, c3, c4, _, _⟩ := box_facts HB1.out
  have f3 := HB1.out.free 3
  have f4 := HB1.out.free 4
  clear hb hown
  go_wp2
  go_end0
  have h1 := (HB1.out.set 3 (.slice x l.length c)).set 4 (.slice none 0 0)
  have hk := (HK1.out.setCell (p := ⟨p, 3, none⟩) (.inl rfl) (.slice x l.length c)).setCell (p := ⟨p, 4, none⟩) (.inl rfl) (.slice none 0 0)
  refine ⟨rfl, _, h1, ?_, hk⟩
  refine ownsRow_kept (S := fun k => some p = some k) HO.out (((Kept.refl (fun k => some p = some k) w1).setCell (p := ⟨p, 3, none⟩) (.inl rfl) (.slice x l.length c)).setCell (p := ⟨p, 4, none⟩) (.inl rfl) (.slice none 0 0)) (fun k e e2 => ?_)
  have := (HO.out.lt k e).1
  cases e2
  omega

end Go.Proofs.YtcpoaofcfefgaaaGreatDoor
end

section
namespace Go.Proofs.YtcpoaofcfefgaaaGreatDoor
open Go.RowKit Go.Cor

theorem regS_call {w wx wy : World} {B : Nat} {s t : ByteArray} {q : Value} {T : TypeId} (h : wx.cell? ⟨B, 0, none⟩ = some (.string s) ∧ wx.cell? ⟨B, 1, none⟩ = some (.string t) ∧ wx.frozen? ⟨B, 0, none⟩ = false ∧ wx.frozen? ⟨B, 1, none⟩ = false ∧ Blk wx B #[.string s, .string t, q] T ∧ Below B w wx) (hb : Below wx.heap.size wx wy) :
    wy.cell? ⟨B, 0, none⟩ = some (.string s) ∧ wy.cell? ⟨B, 1, none⟩ = some (.string t) ∧ wy.frozen? ⟨B, 0, none⟩ = false ∧ wy.frozen? ⟨B, 1, none⟩ = false ∧ Blk wy B #[.string s, .string t, q] T ∧ Below B w wy := by
  obtain ⟨_, _, _, _, h5, h6⟩ := h
  have h5' := h5.below hb h5.lt
  exact ⟨h5'.cell 0 rfl, h5'.cell 1 rfl, h5'.free 0, h5'.free 1, h5', h6.trans (hb.mono (Nat.le_of_lt h5.lt))⟩
theorem regS_st0 {w wx : World} {B : Nat} {s t : ByteArray} {q : Value} {T : TypeId} (h : wx.cell? ⟨B, 0, none⟩ = some (.string s) ∧ wx.cell? ⟨B, 1, none⟩ = some (.string t) ∧ wx.frozen? ⟨B, 0, none⟩ = false ∧ wx.frozen? ⟨B, 1, none⟩ = false ∧ Blk wx B #[.string s, .string t, q] T ∧ Below B w wx) :
    (wx.setCell ⟨B, 0, none⟩ (.string s)).cell? ⟨B, 0, none⟩ = some (.string s) ∧ (wx.setCell ⟨B, 0, none⟩ (.string s)).cell? ⟨B, 1, none⟩ = some (.string t) ∧ (wx.setCell ⟨B, 0, none⟩ (.string s)).frozen? ⟨B, 0, none⟩ = false ∧ (wx.setCell ⟨B, 0, none⟩ (.string s)).frozen? ⟨B, 1, none⟩ = false ∧ Blk (wx.setCell ⟨B, 0, none⟩ (.string s)) B #[.string s, .string t, q] T ∧ Below B w (wx.setCell ⟨B, 0, none⟩ (.string s)) := by
  obtain ⟨_, _, _, _, h5, h6⟩ := h
  have h5' := h5.set 0 (.string s)
  exact ⟨h5'.cell 0 rfl, h5'.cell 1 rfl, h5'.free 0, h5'.free 1, h5', h6.setCell (Nat.le_refl _) _⟩
theorem regS_st1 {w wx : World} {B : Nat} {s t : ByteArray} {q : Value} {T : TypeId} (h : wx.cell? ⟨B, 0, none⟩ = some (.string s) ∧ wx.cell? ⟨B, 1, none⟩ = some (.string t) ∧ wx.frozen? ⟨B, 0, none⟩ = false ∧ wx.frozen? ⟨B, 1, none⟩ = false ∧ Blk wx B #[.string s, .string t, q] T ∧ Below B w wx) :
    (wx.setCell ⟨B, 1, none⟩ (.string t)).cell? ⟨B, 0, none⟩ = some (.string s) ∧ (wx.setCell ⟨B, 1, none⟩ (.string t)).cell? ⟨B, 1, none⟩ = some (.string t) ∧ (wx.setCell ⟨B, 1, none⟩ (.string t)).frozen? ⟨B, 0, none⟩ = false ∧ (wx.setCell ⟨B, 1, none⟩ (.string t)).frozen? ⟨B, 1, none⟩ = false ∧ Blk (wx.setCell ⟨B, 1, none⟩ (.string t)) B #[.string s, .string t, q] T ∧ Below B w (wx.setCell ⟨B, 1, none⟩ (.string t)) := by
  obtain ⟨_, _, _, _, h5, h6⟩ := h
  have h5' := h5.set 1 (.string t)
  exact ⟨h5'.cell 0 rfl, h5'.cell 1 rfl, h5'.free 0, h5'.free 1, h5', h6.setCell (Nat.le_refl _) _⟩

/-- What a deed leaves: the disk d' where d was; what it may have written; what it has. -/
def Mid (w : World) (L : Lay) (d : Dsk) (w' : World) (d' : Dsk) : Prop :=
  ∃ L' : Lay, L'.p = L.p ∧ L'.fb = L.fb ∧ L'.fv = L.fv ∧ L'.cr = L.cr ∧ At w' L' d' ∧ Kept (fun k => ∃ t, L.own d.files.length t = some k) w w' ∧ ∀ t b, L'.own d'.files.length t = some b → L.own d.files.length t = some b ∨ w.heap.size ≤ b
theorem Apt.upd {f g : Tg → Option Nat} (h : Apt f) (τ : Tg) (N : Nat) (hN : ∀ t b, f t = some b → b < N) (hτ : ∀ b, g τ = some b → f τ = some b ∨ N ≤ b) (ho : ∀ t, t ≠ τ → g t = f t) : Apt g := by
  intro t u b ht hu
  by_cases e1 : t = τ
  · by_cases e2 : u = τ
    · rw [e1, e2]
    · rw [ho u e2] at hu
      rw [e1] at ht
      rcases hτ b ht with h1 | h1
      · rw [e1]; exact h τ u b h1 hu
      · have := hN u b hu; omega
  · rw [ho t e1] at ht
    by_cases e2 : u = τ
    · rw [e2] at hu
      rcases hτ b hu with h1 | h1
      · rw [e2]; exact h t τ b ht h1
      · have := hN t b ht; omega
    · rw [ho u e2] at hu
      exact h t u b ht hu

/-- The table of now is another one. -/
theorem Rest.setNow {w w' : World} {L : Lay} {d : Dsk} (h : Rest w L d) {v : Value} {l : Tbl} (ho : w'.ownsRow 0 169 2 v l.length (row (ent L.fb) l)) (hk : Kept (fun k => L.now.ownBlock = some k) w w') (hv : ∀ k, v.ownBlock = some k → L.now.ownBlock = some k ∨ w.heap.size ≤ k) :
    Rest w' { L with now := v } { d with now := l } where
  now := ho
  las := ownsRow_kept h.las hk (fun k e e2 => by cases h.apt .las .now k e e2)
  dee := ownsRow_kept h.dee hk (fun k e e2 => by cases h.apt .dee .now k e e2)
  box k hl := (h.box k hl).kept hk (fun e2 => by cases h.apt (.box k) .now _ (own_box hl) e2)
  byt k hl := ownsRow_kept (h.byt k hl) hk (fun j e e2 => by cases h.apt (.byt k) .now j ((own_byt hl).trans e) e2)
  apt := h.apt.upd .now w.heap.size h.lt hv (fun t ht => by cases t <;> first | rfl | exact absurd rfl ht)
  plt := Nat.lt_of_lt_of_le h.plt hk.size
theorem Rest.setDee {w w' : World} {L : Lay} {d : Dsk} (h : Rest w L d) {v : Value} {l : List Dd} (ho : w'.ownsRow 0 179 3 v l.length (row (ddc L.fb) l)) (hk : Kept (fun k => L.dee.ownBlock = some k) w w') (hv : ∀ k, v.ownBlock = some k → L.dee.ownBlock = some k ∨ w.heap.size ≤ k) :
    Rest w' { L with dee := v } { d with deeds := l } where
  now := ownsRow_kept h.now hk (fun k e e2 => by cases h.apt .now .dee k e e2)
  las := ownsRow_kept h.las hk (fun k e e2 => by cases h.apt .las .dee k e e2)
  dee := ho
  box k hl := (h.box k hl).kept hk (fun e2 => by cases h.apt (.box k) .dee _ (own_box hl) e2)
  byt k hl := ownsRow_kept (h.byt k hl) hk (fun j e e2 => by cases h.apt (.byt k) .dee j ((own_byt hl).trans e) e2)
  apt := h.apt.upd .dee w.heap.size h.lt hv (fun t ht => by cases t <;> first | rfl | exact absurd rfl ht)
  plt := Nat.lt_of_lt_of_le h.plt hk.size
/-- A field of the disk's box is stored. -/
theorem Rest.setDsk {w : World} {L : Lay} {d : Dsk} (h : Rest w L d) (j : Nat) (u : Value) : Rest (w.setCell ⟨L.p, j, none⟩ u) L d := by
  have hk : Kept (fun k => some L.p = some k) w (w.setCell ⟨L.p, j, none⟩ u) := (Kept.refl (fun k => some L.p = some k) w).setCell (p := ⟨L.p, j, none⟩) (.inl rfl) _
  exact ⟨ownsRow_kept h.now hk (fun k e e2 => by cases h.apt .now .dsk k e e2), ownsRow_kept h.las hk (fun k e e2 => by cases h.apt .las .dsk k e e2), ownsRow_kept h.dee hk (fun k e e2 => by cases h.apt .dee .dsk k e e2),
    fun k hl => (h.box k hl).kept hk (fun e2 => by cases h.apt (.box k) .dsk _ (own_box hl) e2), fun k hl => ownsRow_kept (h.byt k hl) hk (fun j e e2 => by cases h.apt (.byt k) .dsk j ((own_byt hl).trans e) e2), h.apt, Nat.lt_of_lt_of_le h.plt hk.size⟩

theorem mid_dee {w w3 w4 : World} {L : Lay} {d : Dsk} {v2 v4 : Value} {t1 : Tbl} {x : Dd} {q : Option Addr} {T : TypeId} (hq : q = dptr L.fb x) (hA : At w3 { L with now := v2 } { d with now := t1 }) (hK : Kept (fun k => ∃ t, L.own d.files.length t = some k) w w3) (hV : ∀ k, v2.ownBlock = some k → L.now.ownBlock = some k ∨ w.heap.size ≤ k)
    (hP : Blk w4 L.p #[.int .i64 (d.cap : Int), .int .i64 (L.cr : Int), v2, L.las, L.dee, .bool d.armed.isSome, .int .i64 (lft L d)] 88)
    (hO : w4.ownsRow 0 179 3 v4 (d.deeds.length + 1) (row (ddc L.fb) d.deeds ++ #[Value.string x.src, .string x.dst, .pointer q].toList))
    (hG : (w3.drew.alloc (.cells #[.string x.src, .string x.dst, .pointer q] T)).grownBy w4 L.dee.ownBlock) (hT : v4.ownBlock = L.dee.ownBlock ∨ v4.ownBlock = some (w3.drew.alloc (.cells #[.string x.src, .string x.dst, .pointer q] T)).heap.size) :
    Mid w L d (w4.setCell ⟨L.p, 4, none⟩ v4) { d with now := t1, deeds := d.deeds ++ [x] } := by
  have hk : Kept (fun k => L.dee.ownBlock = some k) w3 w4 := (((Kept.refl (fun k => L.dee.ownBlock = some k) w3).drew).alloc _).grown hG (fun k hk => .inl hk)
  have hv : ∀ k, v4.ownBlock = some k → L.dee.ownBlock = some k ∨ w3.heap.size ≤ k := fun k e => by
    rcases hT with h | h
    · exact .inl (h ▸ e)
    · rw [h] at e
      have e' : (w3.drew.alloc (.cells #[.string x.src, .string x.dst, .pointer q] T)).heap.size = k := by simpa using e
      have e2 : (w3.drew.alloc (.cells #[.string x.src, .string x.dst, .pointer q] T)).heap.size = w3.heap.size + 1 := by simp
      exact .inr (by omega)
  have ho : w4.ownsRow 0 179 3 v4 (d.deeds ++ [x]).length (row (ddc L.fb) (d.deeds ++ [x])) := by
    rw [row_append, row_one, List.length_append]
    subst hq
    exact hO
  have hR := hA.rest.setDee (w' := w4) ho hk hv
  refine ⟨{ L with now := v2, dee := v4 }, rfl, rfl, rfl, rfl, ⟨hP.set 4 v4, hR.setDsk 4 v4⟩, ?_, fun t b hb => ?_⟩
  · exact (hK.trans hk (fun j hj _ => ⟨.dee, hj⟩)).setCell (p := ⟨L.p, 4, none⟩) (.inl ⟨.dsk, rfl⟩) _
  · cases t with
    | now => exact hV b hb
    | dee => exact (hv b hb).imp id (fun h => Nat.le_trans hK.size h)
    | dsk => exact .inl hb
    | las => exact .inl hb
    | box k => exact .inl hb
    | byt k => exact .inl hb

set_option maxRecDepth 100000 in
set_option maxHeartbeats 4000000 in
theorem name_any (w : World) (L : Lay) (d : Dsk) (s t : ByteArray) (f : Nat) (q : Option Addr) (h : At w L d) (hss : s.size ≤ 281474976710656) (hts : t.size ≤ 281474976710656) (hq : q = dptr L.fb ⟨s, t, f⟩) (hd : isDown d.armed = false) (ha : ∀ n, d.armed = some n → n < 9223372036854775808)
    (hs : Sorted d.now) (hl : d.now.length ≤ 1048575) (hdl : d.deeds.length ≤ 1048575) :
    Calls Tryz.prog 79 #[.pointer (some ⟨L.p, 0, none⟩), .agg #[.string s, .string t, .pointer q]] w fun e w' => e = .returned (.tuple #[]) ∧ Mid w L d w' (d.nameD ⟨s, t, f⟩) := by
  have S0 : (w.alloc (.cells #[.string s, .string t, .pointer q] 179)).drew.cell? ⟨w.heap.size, 0, none⟩ = some (.string s) ∧ (w.alloc (.cells #[.string s, .string t, .pointer q] 179)).drew.cell? ⟨w.heap.size, 1, none⟩ = some (.string t) ∧ (w.alloc (.cells #[.string s, .string t, .pointer q] 179)).drew.frozen? ⟨w.heap.size, 0, none⟩ = false ∧ (w.alloc (.cells #[.string s, .string t, .pointer q] 179)).drew.frozen? ⟨w.heap.size, 1, none⟩ = false ∧ Blk (w.alloc (.cells #[.string s, .string t, .pointer q] 179)).drew w.heap.size #[.string s, .string t, .pointer q] 179 ∧ Below w.heap.size w (w.alloc (.cells #[.string s, .string t, .pointer q] 179)).drew := by
    have h5 := (Blk.new w #[.string s, .string t, .pointer q] 179).drew
    exact ⟨h5.cell 0 rfl, h5.cell 1 rfl, h5.free 0, h5.free 1, h5, ((Below.refl _ w).alloc (Nat.le_refl _) _).drew⟩
  obtain ⟨i0, hinf, hz0, hz1, hz2⟩ := info_parts Tryz.infoDeed
  have H := Lib.hid h
  have HQ := Lib.hid hq
  have HD := Lib.hid hd
  have HI := Lib.hid hinf
  have HZ0 := Lib.hid hz0
  have HZ1 := Lib.hid hz1
  have HZ2 := Lib.hid hz2
  clear h hq hd hinf hz0 hz1 hz2
  go_enter Tryz.func79, Tryz.ntmps79
  go_upto_region 1 with fail
  go_cut [4] from 4 to 11 (fun _ wx => Hid (Blk wx w.heap.size #[.string s, .string t, .pointer q] 179 ∧ Below w.heap.size w wx))
  case first =>
    go_region_held3 (fun wx => wx.cell? ⟨w.heap.size, 0, none⟩ = some (.string s) ∧ wx.cell? ⟨w.heap.size, 1, none⟩ = some (.string t) ∧ wx.frozen? ⟨w.heap.size, 0, none⟩ = false ∧ wx.frozen? ⟨w.heap.size, 1, none⟩ = false ∧ Blk wx w.heap.size #[.string s, .string t, .pointer q] 179 ∧ Below w.heap.size w wx) (first | exact S0 | (refine regS_call (by assumption) (by assumption)) | exact regS_st0 (by assumption) | exact regS_st1 (by assumption)) (first | (go_at_call 109; refine (sclone_any s _ hss).mono ?_; rintro e wa ⟨rfl, hba⟩) | (go_at_call 109; refine (sclone_any t _ hts).mono ?_; rintro e wb ⟨rfl, hbb⟩))
    go_wp2_with fail
    go_meet
    exact Lib.hid (regS_st1 (regS_st0 (regS_call (regS_call S0 hba) hbb))).2.2.2.2
  case rest =>
    clear S0
    obtain ⟨w1, hw1⟩ : ∃ w1, w1 = wc := ⟨_, rfl⟩
    subst hw1
    have HX1 := Lib.hid hcut.out.1
    have HB1 := Lib.hid hcut.out.2
    have HA1 := Lib.hid (H.out.below hcut.out.2 (Nat.le_refl _))
    have hsz : w.heap.size < w1.heap.size := hcut.out.1.lt
    have hpw : L.p < w.heap.size := H.out.rest.plt
    clear hcut
    obtain ⟨c0, c1, c2⟩ := BoxD.facts HX1.out
    obtain ⟨_, _, k2, _, _, _, _⟩ := box_facts HA1.out.blk
    have f2 := HA1.out.blk.free 2
    have HKA := Lib.hid (Kept.of_below (S := fun k => ∃ t, L.own d.files.length t = some k) HB1.out (Nat.le_refl _))
    have HBH := Lib.hid (behind_any L.fb L.now d.now ⟨s, t, f⟩ q w1.drew HA1.out.rest.now hs hl (fun hne => by rw [HQ.out]; unfold dptr; rw [if_neg hne]))
    go_upto_region 2 with fail
    go_cut [18] from 12 to 20 (fun _ wx => Hid (Blk wx w.heap.size #[.string s, .string t, .pointer q] 179 ∧ ∃ v2, At wx { L with now := v2 } { d with now := turnT d.now ⟨s, t, f⟩ } ∧ Kept (fun k => ∃ t, L.own d.files.length t = some k) w wx ∧ ∀ k, v2.ownBlock = some k → L.now.ownBlock = some k ∨ w.heap.size ≤ k))
    case first =>
      refine wp_region_held_drew (S := (fun wx => wx.cell? ⟨w.heap.size, 0, none⟩ = some (.string s) ∧ wx.cell? ⟨w.heap.size, 1, none⟩ = some (.string t) ∧ wx.cell? ⟨w.heap.size, 2, none⟩ = some (.pointer q))) (by kernel_rfl) (⟨c0, c1, c2⟩) (fun hHeld => ?_)
      refine wpAnyH_take (i := 0) (v := ?_) rfl (by kernel_rfl) (by kernel_rfl) (by kernel_rfl) (fun _ _ _ h => h) (Or.inl ⟨by rfl, ?_⟩) (by assumption) ?_
      rotate_left 1
      · intro w hSw
        (try dsimp only at hSw)
        go_simp
        all_goals (with_reducible rfl)
      try simp only [Act.put, List.getElem_toArray, List.getElem_cons_zero, List.getElem_cons_succ, List.setIfInBounds_toArray, List.set_cons_zero, List.set_cons_succ]
      refine wpAnyH_take (i := 1) (v := ?_) rfl (by kernel_rfl) (by kernel_rfl) (by kernel_rfl) (fun _ _ _ h => h) (Or.inl ⟨by rfl, ?_⟩) (by assumption) ?_
      rotate_left 1
      · intro w hSw
        (try dsimp only at hSw)
        go_simp
        all_goals (with_reducible rfl)
      try simp only [Act.put, List.getElem_toArray, List.getElem_cons_zero, List.getElem_cons_succ, List.setIfInBounds_toArray, List.set_cons_zero, List.set_cons_succ]
      refine wpAnyH_take (i := 2) (v := ?_) rfl (by kernel_rfl) (by kernel_rfl) (by kernel_rfl) (fun _ _ _ h => h) (Or.inl ⟨by rfl, ?_⟩) (by assumption) ?_
      rotate_left 1
      · intro w hSw
        (try dsimp only at hSw)
        go_simp
        all_goals (with_reducible rfl)
      try simp only [Act.put, List.getElem_toArray, List.getElem_cons_zero, List.getElem_cons_succ, List.setIfInBounds_toArray, List.set_cons_zero, List.set_cons_succ]
      refine wpAnyH_take (i := 3) (v := ?_) rfl (by kernel_rfl) (by kernel_rfl) (by kernel_rfl) (fun _ _ _ h => h) (Or.inl ⟨by rfl, ?_⟩) (by assumption) ?_
      rotate_left 1
      · intro w hSw
        (try dsimp only at hSw)
        go_simp
        all_goals (with_reducible rfl)
      try simp only [Act.put, List.getElem_toArray, List.getElem_cons_zero, List.getElem_cons_succ, List.setIfInBounds_toArray, List.set_cons_zero, List.set_cons_succ]
      refine wpAnyH_take (i := 5) (v := ?_) rfl (by kernel_rfl) (by kernel_rfl) (by kernel_rfl) (fun _ _ _ h => h) (Or.inl ⟨by rfl, ?_⟩) (by assumption) ?_
      rotate_left 1
      · intro w hSw
        (try dsimp only at hSw)
        go_simp
        all_goals (with_reducible rfl)
      try simp only [Act.put, List.getElem_toArray, List.getElem_cons_zero, List.getElem_cons_succ, List.setIfInBounds_toArray, List.set_cons_zero, List.set_cons_succ]
      refine wpAnyH_ready (rs := [4]) (by kernel_rfl) (by simp) ?_
      refine AllReadyH.cons rfl (fun K hK => ?_) AllReadyH.nil
      go_simp
      refine hK.out _ _ (⟨c0, c1, c2⟩) (fun hHeld => ?_)
      clear hK K
      try simp only [Act.put, List.getElem_toArray, List.getElem_cons_zero, List.getElem_cons_succ, List.setIfInBounds_toArray, List.set_cons_zero, List.set_cons_succ]
      refine wpAnyH_ready (rs := [6]) (by kernel_rfl) (by simp) ?_
      refine AllReadyH.cons rfl (fun K hK => ?_) AllReadyH.nil
      go_simp
      go_at_call 110
      refine HBH.out.mono ?_
      rintro e w2 ⟨v2, rfl, hown2, hk2, hv2⟩
      have hk2 := Kept.undrew hk2
      obtain ⟨x2, z2, rfl, hz2a, hz2b⟩ := ownsRow_slice hown2
      have HP2 := Lib.hid (HA1.out.blk.kept (w' := w2) (S := fun k => L.now.ownBlock = some k) hk2 (fun e => by cases HA1.out.rest.apt .dsk .now L.p rfl e))
      have HX2 := Lib.hid (HX1.out.kept (w' := w2) (S := fun k => L.now.ownBlock = some k) hk2 (fun e => by have := HA1.out.rest.lt .now _ e; have := (H.out.rest.lt .now _ e); omega))
      have g2 := HP2.out.free 2
      have m2 := HP2.out.cell 2 rfl
      have HN2 := Lib.hid (HA1.out.rest.setNow hown2 (w := w1) (w' := w2) hk2 hv2)
      have HK2 := Lib.hid (HKA.out.trans (show Kept (fun k => L.now.ownBlock = some k) w1 w2 from hk2) (fun j hj _ => ⟨.now, hj⟩))
      have HV2 := Lib.hid (show ∀ k, (Value.slice x2 (turnT d.now ⟨s, t, f⟩).length z2).ownBlock = some k → L.now.ownBlock = some k ∨ w1.heap.size ≤ k from hv2)
      clear hown2 hk2 hv2 k2
      go_wp2_with fail
      refine hK.out _ _ (BoxD.facts HX2.out) (fun hHeld => ?_)
      clear hK K
      try simp only [Act.put, List.getElem_toArray, List.getElem_cons_zero, List.getElem_cons_succ, List.setIfInBounds_toArray, List.set_cons_zero, List.set_cons_succ]
      refine wpAnyH_take (i := 7) (v := ?_) rfl (by kernel_rfl) (by kernel_rfl) (by kernel_rfl) (fun _ _ _ h => h) (Or.inl ⟨by rfl, ?_⟩) (by assumption) ?_
      rotate_left 1
      · intro w hSw
        (try dsimp only at hSw)
        go_simp
        all_goals (with_reducible rfl)
      try simp only [Act.put, List.getElem_toArray, List.getElem_cons_zero, List.getElem_cons_succ, List.setIfInBounds_toArray, List.set_cons_zero, List.set_cons_succ]
      refine wpAnyH_take (i := 8) (v := ?_) rfl (by kernel_rfl) (by kernel_rfl) (by kernel_rfl) (fun _ _ _ h => h) (Or.inl ⟨by rfl, ?_⟩) (by assumption) ?_
      rotate_left 1
      · intro w hSw
        (try dsimp only at hSw)
        go_simp
        all_goals (with_reducible rfl)
      try simp only [Act.put, List.getElem_toArray, List.getElem_cons_zero, List.getElem_cons_succ, List.setIfInBounds_toArray, List.set_cons_zero, List.set_cons_succ]
      refine wpAnyH_ready (rs := [9]) (by kernel_rfl) (by simp) ?_
      refine AllReadyH.cons rfl (fun K hK => ?_) AllReadyH.nil
      go_simp
      refine hK.out _ _ (BoxD.facts (HX2.out.other (a := ⟨L.p, 2, none⟩) (by show L.p ≠ _; omega) (.slice x2 (turnT d.now ⟨s, t, f⟩).length z2))) (fun hHeld => ?_)
      clear hK K
      try simp only [Act.put, List.getElem_toArray, List.getElem_cons_zero, List.getElem_cons_succ, List.setIfInBounds_toArray, List.set_cons_zero, List.set_cons_succ]
      refine wpAnyH_done (by kernel_rfl) ?_ _
      go_wp2_with fail
      go_meet
      have hA : At (w2.setCell ⟨L.p, 2, none⟩ (Value.slice x2 (turnT d.now ⟨s, t, f⟩).length z2)) { L with now := (Value.slice x2 (turnT d.now ⟨s, t, f⟩).length z2) } { d with now := turnT d.now ⟨s, t, f⟩ } := ⟨HP2.out.set 2 (Value.slice x2 (turnT d.now ⟨s, t, f⟩).length z2), HN2.out.setDsk 2 (Value.slice x2 (turnT d.now ⟨s, t, f⟩).length z2)⟩
      exact Lib.hid ⟨HX2.out.other (a := ⟨L.p, 2, none⟩) (by show L.p ≠ _; omega) _, _, hA, HK2.out.setCell (p := ⟨L.p, 2, none⟩) (.inl ⟨.dsk, rfl⟩) _, fun k hk => (HV2.out k hk).imp id (fun h => by omega)⟩
    case rest =>
      clear HA1 HX1 HBH HKA HB1 c0 c1 c2 k2 f2 hsz
      obtain ⟨w3, hw3⟩ : ∃ w3, w3 = wc := ⟨_, rfl⟩
      subst hw3
      have HX3 := Lib.hid hcut.out.1
      obtain ⟨v2, hA2, hK2, hV2⟩ := hcut.out.2
      have HA2 := Lib.hid hA2
      have HKB := Lib.hid hK2
      have HVB := Lib.hid hV2
      have hsz : w.heap.size < w3.heap.size := hcut.out.1.lt
      have hp23 : L.p < w3.heap.size := by omega
      have HP3 := Lib.hid (show Blk w3 L.p #[.int .i64 (d.cap : Int), .int .i64 (L.cr : Int), v2, L.las, L.dee, .bool d.armed.isSome, .int .i64 (lft L d)] 88 from hA2.blk)
      clear hcut hA2 hK2 hV2
      have HXN := Lib.hid (show ¬ L.dee.ownBlock = some w.heap.size from fun e => by
        have := H.out.rest.lt .dee _ e
        omega)
      have HXA := Lib.hid (show Blk (w3.drew.alloc (.cells #[.string s, .string t, .pointer q] 179)) w.heap.size #[.string s, .string t, .pointer q] 179 from Blk.alloc (w := w3.drew) HX3.out _)
      have HPA := Lib.hid (show Blk (w3.drew.alloc (.cells #[.string s, .string t, .pointer q] 179)) L.p _ _ from Blk.alloc (w := w3.drew) HP3.out _)
      have HDE := Lib.hid (show (w3.drew.alloc (.cells #[.string s, .string t, .pointer q] 179)).ownsRow 0 179 3 L.dee d.deeds.length (row (ddc L.fb) d.deeds) from World.ownsRow.alloc (w := w3.drew) (show w3.drew.ownsRow _ _ _ _ _ _ from HA2.out.rest.dee) _)
      have HSX := Lib.hid (IsX.lit w3.drew #[.string s, .string t, .pointer q] 179 3 1 rfl (by decide))
      obtain ⟨c0, c1, c2⟩ := BoxD.facts HX3.out
      have k4 := HP3.out.cell 4 rfl
      go_upto_region 3 with fail
      go_cut [28] from 21 to 30 (fun _ wx => Hid (Mid w L d wx { d with now := turnT d.now ⟨s, t, f⟩, deeds := d.deeds ++ [⟨s, t, f⟩] }))
      case first =>
        refine wp_region_held_drew (S := (fun wx => wx.cell? ⟨w.heap.size, 0, none⟩ = some (.string s) ∧ wx.cell? ⟨w.heap.size, 1, none⟩ = some (.string t) ∧ wx.cell? ⟨w.heap.size, 2, none⟩ = some (.pointer q))) (by kernel_rfl) (⟨c0, c1, c2⟩) (fun hHeld => ?_)
        refine wpAnyH_take (i := 0) (v := ?_) rfl (by kernel_rfl) (by kernel_rfl) (by kernel_rfl) (fun _ _ _ h => h) (Or.inl ⟨by rfl, ?_⟩) (by assumption) ?_
        rotate_left 1
        · intro w hSw
          (try dsimp only at hSw)
          go_simp
          all_goals (with_reducible rfl)
        try simp only [Act.put, List.getElem_toArray, List.getElem_cons_zero, List.getElem_cons_succ, List.setIfInBounds_toArray, List.set_cons_zero, List.set_cons_succ]
        refine wpAnyH_take (i := 1) (v := ?_) rfl (by kernel_rfl) (by kernel_rfl) (by kernel_rfl) (fun _ _ _ h => h) (Or.inl ⟨by rfl, ?_⟩) (by assumption) ?_
        rotate_left 1
        · intro w hSw
          (try dsimp only at hSw)
          go_simp
          all_goals (with_reducible rfl)
        try simp only [Act.put, List.getElem_toArray, List.getElem_cons_zero, List.getElem_cons_succ, List.setIfInBounds_toArray, List.set_cons_zero, List.set_cons_succ]
        refine wpAnyH_take (i := 2) (v := ?_) rfl (by kernel_rfl) (by kernel_rfl) (by kernel_rfl) (fun _ _ _ h => h) (Or.inl ⟨by rfl, ?_⟩) (by assumption) ?_
        rotate_left 1
        · intro w hSw
          (try dsimp only at hSw)
          go_simp
          all_goals (with_reducible rfl)
        try simp only [Act.put, List.getElem_toArray, List.getElem_cons_zero, List.getElem_cons_succ, List.setIfInBounds_toArray, List.set_cons_zero, List.set_cons_succ]
        refine wpAnyH_take (i := 3) (v := ?_) rfl (by kernel_rfl) (by kernel_rfl) (by kernel_rfl) (fun _ _ _ h => h) (Or.inl ⟨by rfl, ?_⟩) (by assumption) ?_
        rotate_left 1
        · intro w hSw
          (try dsimp only at hSw)
          go_simp
          all_goals (with_reducible rfl)
        try simp only [Act.put, List.getElem_toArray, List.getElem_cons_zero, List.getElem_cons_succ, List.setIfInBounds_toArray, List.set_cons_zero, List.set_cons_succ]
        refine wpAnyH_take (i := 5) (v := ?_) rfl (by kernel_rfl) (by kernel_rfl) (by kernel_rfl) (fun _ _ _ h => h) (Or.inl ⟨by rfl, ?_⟩) (by assumption) ?_
        rotate_left 1
        · intro w hSw
          (try dsimp only at hSw)
          go_simp
          all_goals (with_reducible rfl)
        try simp only [Act.put, List.getElem_toArray, List.getElem_cons_zero, List.getElem_cons_succ, List.setIfInBounds_toArray, List.set_cons_zero, List.set_cons_succ]
        refine wpAnyH_ready (rs := [4, 6]) (by kernel_rfl) (by simp) ?_
        refine AllReadyH.cons rfl (fun K hK => ?_) ?_
        · go_simp
          refine hK.out _ _ ((by first | exact ⟨c0, c1, c2⟩ | exact BoxD.facts HXA.out)) (fun hHeld => ?_)
          clear hK K
          try simp only [Act.put, List.getElem_toArray, List.getElem_cons_zero, List.getElem_cons_succ, List.setIfInBounds_toArray, List.set_cons_zero, List.set_cons_succ]
          refine wpAnyH_ready (rs := [6]) (by kernel_rfl) (by simp) ?_
          refine AllReadyH.cons rfl (fun K hK => ?_) AllReadyH.nil
          go_simp
          refine hK.out _ _ ((by first | exact ⟨c0, c1, c2⟩ | exact BoxD.facts HXA.out)) (fun hHeld => ?_)
          clear hK K
          try simp only [Act.put, List.getElem_toArray, List.getElem_cons_zero, List.getElem_cons_succ, List.setIfInBounds_toArray, List.set_cons_zero, List.set_cons_succ]
          refine wpAnyH_ready (rs := [7]) (by kernel_rfl) (by simp) ?_
          refine AllReadyH.cons rfl (fun K hK => ?_) AllReadyH.nil
          refine step_append_X (by rfl) _ _ 86 rfl 0 179 i0 _ 3 40 Tryz.underlying86 HI.out HZ0.out HZ1.out HZ2.out rfl (by decide) _ _ _ rfl HDE.out _ 1 _ rfl HSX.out (by intro u hu; simp only [List.mem_cons, List.not_mem_nil, or_false] at hu; rcases hu with rfl | rfl | rfl <;> rfl) (by unfold maxLen; omega) (by omega) (Nat.zero_le _) ?_
          intro v4 w4 hown4 hgr4 hat4
          obtain ⟨x4, z4, rfl, hz4a, hz4b⟩ := ownsRow_slice hown4
          have HP4 := Lib.hid (HPA.out.grown (w' := w4) hgr4 (fun e => by cases HA2.out.rest.apt .dsk .dee L.p rfl e))
          have HX4 := Lib.hid (HXA.out.grown (w' := w4) hgr4 (fun e => by exact HXN.out e))
          have g4 := HP4.out.free 4
          have m4 := HP4.out.cell 4 rfl
          have HG4 := Lib.hid hgr4
          have HO4 := Lib.hid hown4
          have HT4 := Lib.hid hat4
          clear hown4 hgr4 hat4 k4
          
          refine hK.out _ _ (BoxD.facts HX4.out) (fun hHeld => ?_)
          clear hK K
          try simp only [Act.put, List.getElem_toArray, List.getElem_cons_zero, List.getElem_cons_succ, List.setIfInBounds_toArray, List.set_cons_zero, List.set_cons_succ]
          refine wpAnyH_take (i := 8) (v := ?_) rfl (by kernel_rfl) (by kernel_rfl) (by kernel_rfl) (fun _ _ _ h => h) (Or.inl ⟨by rfl, ?_⟩) (by assumption) ?_
          rotate_left 1
          · intro w hSw
            (try dsimp only at hSw)
            go_simp
            all_goals (with_reducible rfl)
          try simp only [Act.put, List.getElem_toArray, List.getElem_cons_zero, List.getElem_cons_succ, List.setIfInBounds_toArray, List.set_cons_zero, List.set_cons_succ]
          refine wpAnyH_take (i := 9) (v := ?_) rfl (by kernel_rfl) (by kernel_rfl) (by kernel_rfl) (fun _ _ _ h => h) (Or.inl ⟨by rfl, ?_⟩) (by assumption) ?_
          rotate_left 1
          · intro w hSw
            (try dsimp only at hSw)
            go_simp
            all_goals (with_reducible rfl)
          try simp only [Act.put, List.getElem_toArray, List.getElem_cons_zero, List.getElem_cons_succ, List.setIfInBounds_toArray, List.set_cons_zero, List.set_cons_succ]
          refine wpAnyH_ready (rs := [10]) (by kernel_rfl) (by simp) ?_
          refine AllReadyH.cons rfl (fun K hK => ?_) AllReadyH.nil
          go_simp
          refine hK.out _ _ (BoxD.facts (HX4.out.other (a := ⟨L.p, 4, none⟩) (by show L.p ≠ _; omega) (.slice x4 (d.deeds.length + 1) z4))) (fun hHeld => ?_)
          clear hK K
          try simp only [Act.put, List.getElem_toArray, List.getElem_cons_zero, List.getElem_cons_succ, List.setIfInBounds_toArray, List.set_cons_zero, List.set_cons_succ]
          refine wpAnyH_done (by kernel_rfl) ?_ _
          go_wp2_with fail
          go_meet
          exact Lib.hid (mid_dee HQ.out HA2.out HKB.out HVB.out HP4.out HO4.out HG4.out HT4.out)
        refine AllReadyH.cons rfl (fun K hK => ?_) AllReadyH.nil
        go_simp
        refine hK.out _ _ ((by first | exact ⟨c0, c1, c2⟩ | exact BoxD.facts HXA.out)) (fun hHeld => ?_)
        clear hK K
        try simp only [Act.put, List.getElem_toArray, List.getElem_cons_zero, List.getElem_cons_succ, List.setIfInBounds_toArray, List.set_cons_zero, List.set_cons_succ]
        refine wpAnyH_ready (rs := [4]) (by kernel_rfl) (by simp) ?_
        refine AllReadyH.cons rfl (fun K hK => ?_) AllReadyH.nil
        go_simp
        refine hK.out _ _ ((by first | exact ⟨c0, c1, c2⟩ | exact BoxD.facts HXA.out)) (fun hHeld => ?_)
        clear hK K
        try simp only [Act.put, List.getElem_toArray, List.getElem_cons_zero, List.getElem_cons_succ, List.setIfInBounds_toArray, List.set_cons_zero, List.set_cons_succ]
        refine wpAnyH_ready (rs := [7]) (by kernel_rfl) (by simp) ?_
        refine AllReadyH.cons rfl (fun K hK => ?_) AllReadyH.nil
        refine step_append_X (by rfl) _ _ 86 rfl 0 179 i0 _ 3 40 Tryz.underlying86 HI.out HZ0.out HZ1.out HZ2.out rfl (by decide) _ _ _ rfl HDE.out _ 1 _ rfl HSX.out (by intro u hu; simp only [List.mem_cons, List.not_mem_nil, or_false] at hu; rcases hu with rfl | rfl | rfl <;> rfl) (by unfold maxLen; omega) (by omega) (Nat.zero_le _) ?_
        intro v4 w4 hown4 hgr4 hat4
        obtain ⟨x4, z4, rfl, hz4a, hz4b⟩ := ownsRow_slice hown4
        have HP4 := Lib.hid (HPA.out.grown (w' := w4) hgr4 (fun e => by cases HA2.out.rest.apt .dsk .dee L.p rfl e))
        have HX4 := Lib.hid (HXA.out.grown (w' := w4) hgr4 (fun e => by exact HXN.out e))
        have g4 := HP4.out.free 4
        have m4 := HP4.out.cell 4 rfl
        have HG4 := Lib.hid hgr4
        have HO4 := Lib.hid hown4
        have HT4 := Lib.hid hat4
        clear hown4 hgr4 hat4 k4
        
        refine hK.out _ _ (BoxD.facts HX4.out) (fun hHeld => ?_)
        clear hK K
        try simp only [Act.put, List.getElem_toArray, List.getElem_cons_zero, List.getElem_cons_succ, List.setIfInBounds_toArray, List.set_cons_zero, List.set_cons_succ]
        refine wpAnyH_take (i := 8) (v := ?_) rfl (by kernel_rfl) (by kernel_rfl) (by kernel_rfl) (fun _ _ _ h => h) (Or.inl ⟨by rfl, ?_⟩) (by assumption) ?_
        rotate_left 1
        · intro w hSw
          (try dsimp only at hSw)
          go_simp
          all_goals (with_reducible rfl)
        try simp only [Act.put, List.getElem_toArray, List.getElem_cons_zero, List.getElem_cons_succ, List.setIfInBounds_toArray, List.set_cons_zero, List.set_cons_succ]
        refine wpAnyH_take (i := 9) (v := ?_) rfl (by kernel_rfl) (by kernel_rfl) (by kernel_rfl) (fun _ _ _ h => h) (Or.inl ⟨by rfl, ?_⟩) (by assumption) ?_
        rotate_left 1
        · intro w hSw
          (try dsimp only at hSw)
          go_simp
          all_goals (with_reducible rfl)
        try simp only [Act.put, List.getElem_toArray, List.getElem_cons_zero, List.getElem_cons_succ, List.setIfInBounds_toArray, List.set_cons_zero, List.set_cons_succ]
        refine wpAnyH_ready (rs := [10]) (by kernel_rfl) (by simp) ?_
        refine AllReadyH.cons rfl (fun K hK => ?_) AllReadyH.nil
        go_simp
        refine hK.out _ _ (BoxD.facts (HX4.out.other (a := ⟨L.p, 4, none⟩) (by show L.p ≠ _; omega) (.slice x4 (d.deeds.length + 1) z4))) (fun hHeld => ?_)
        clear hK K
        try simp only [Act.put, List.getElem_toArray, List.getElem_cons_zero, List.getElem_cons_succ, List.setIfInBounds_toArray, List.set_cons_zero, List.set_cons_succ]
        refine wpAnyH_done (by kernel_rfl) ?_ _
        go_wp2_with fail
        go_meet
        exact Lib.hid (mid_dee HQ.out HA2.out HKB.out HVB.out HP4.out HO4.out HG4.out HT4.out)
      case rest =>
        obtain ⟨w5, hw5⟩ : ∃ w5, w5 = wc := ⟨_, rfl⟩
        subst hw5
        obtain ⟨L5, e1, e2, e3, e4, hA5, hK5, hO5⟩ := hcut.out
        have HA5 := Lib.hid hA5
        have HE := Lib.hid (show L5.p = L.p ∧ L5.fb = L.fb ∧ L5.fv = L.fv ∧ L5.cr = L.cr from ⟨e1, e2, e3, e4⟩)
        have HK5 := Lib.hid hK5
        have HO5 := Lib.hid hO5
        rw [← e1]
        clear hcut hA5 hK5 hO5 e1 e2 e3 e4 c0 c1 c2 k4 HXA HPA HDE HSX HP3 HA2 HX3
        go_wp2_with fail
        refine (done_any _ L5 _ HA5.out HD.out ha).mono ?_
        rintro e w6 ⟨rfl, hA6, hK6⟩
        have HF := Lib.hid (show Mid w L d w6 (d.nameD ⟨s, t, f⟩) from ⟨L5, HE.out.1, HE.out.2.1, HE.out.2.2.1, HE.out.2.2.2, hA6, HK5.out.trans hK6 (fun j hj hlt => by
          rcases HO5.out .dsk j hj with h | h
          · exact ⟨.dsk, h⟩
          · omega), HO5.out⟩)
        clear hA6 hK6
        go_wp2
        go_end0
        exact ⟨rfl, HF.out⟩

end Go.Proofs.YtcpoaofcfefgaaaGreatDoor
end
