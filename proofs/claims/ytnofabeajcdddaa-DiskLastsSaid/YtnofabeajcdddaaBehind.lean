/- A table behind a deed of names: by contract. -/
import Derived.Test.YtnofabeajcdddaaTabi
import Derived.Test.YtnofabeajcdddaaBlk
namespace Go.Proofs.Ytnofabeajcdddaa
open Go.RowKit Go.Cor

theorem BoxD.facts {w : World} {g : Nat} {a b : ByteArray} {q : Option Addr} {T : TypeId} (h : Blk w g #[.string a, .string b, .pointer q] T) :
    w.cell? ⟨g, 0, none⟩ = some (.string a) ∧ w.cell? ⟨g, 1, none⟩ = some (.string b) ∧ w.cell? ⟨g, 2, none⟩ = some (.pointer q) := ⟨h.cell 0 rfl, h.cell 1 rfl, h.cell 2 rfl⟩
theorem wout_some {l : Tbl} (hs : Sorted l) {n : ByteArray} {f : Nat} (h : tfind l n = some f) : l.eraseIdx (pos l n) = wout l n ∧ pos l n < l.length := ⟨erase_pos hs h, (List.getElem?_eq_some_iff.1 (tfind_at hs h)).1⟩

/-- What a change of a table leaves. -/
def Tabled (fb : Nat → Nat) (w : World) (v : Value) (t : Tbl) (e : Ending) (w' : World) : Prop :=
  ∃ v', e = .returned v' ∧ w'.ownsRow 0 104 2 v' t.length (row (ent fb) t) ∧ Kept (fun k => v.ownBlock = some k) w w' ∧ (∀ k, v'.ownBlock = some k → v.ownBlock = some k ∨ w.heap.size ≤ k)

theorem Tabled.mk {fb : Nat → Nat} {w w' : World} {v v' : Value} {t : Tbl} (h1 : w'.ownsRow 0 104 2 v' t.length (row (ent fb) t)) (h2 : Kept (fun k => v.ownBlock = some k) w w') (h3 : ∀ k, v'.ownBlock = some k → v.ownBlock = some k ∨ w.heap.size ≤ k) : Tabled fb w v t (.returned v') w' := ⟨v', rfl, h1, h2, h3⟩
theorem empty_toList : noName.toList.isEmpty = true := by rw [Lib.toList_data]; rfl
theorem some_toList {s : ByteArray} (h : s ≠ noName) : s.toList.isEmpty = false := by
  rw [Lib.toList_data]
  cases hd : s.data.toList with
  | cons => rfl
  | nil => exact absurd (ByteArray.ext (Array.toList_eq_nil_iff.1 hd)) h

set_option maxRecDepth 100000 in
set_option maxHeartbeats 4000000 in
theorem behind_0e (fb : Nat → Nat) (v : Value) (l : Tbl) (src dst : ByteArray) (q : Option Addr) (f : Nat) (w : World) (hv : w.ownsRow 0 104 2 v l.length (row (ent fb) l)) (hs : Sorted l) (hl : l.length ≤ 1048575) (ha : Hid (tfind l src = none)) (hd : Hid (dst = noName)) :
    Calls Try.prog 47 #[v, .agg #[.string src, .string dst, .pointer q]] w (Tabled fb w v l) := by
  have hvlt := fun k hk => (hv.lt k hk).2
  have HX0 := Lib.hid (Blk.new w #[.string src, .string dst, .pointer q] 100)
  have HK0 := Lib.hid ((Kept.refl (fun k => v.ownBlock = some k) w).alloc (.cells #[.string src, .string dst, .pointer q] 100))
  have HO0 := Lib.hid (ownsRow_kept hv ((Kept.refl (fun _ => False) w).alloc (.cells #[.string src, .string dst, .pointer q] 100)) (fun _ _ h => h))
  have hB : ¬ v.ownBlock = some w.heap.size := fun e => by have := hvlt _ e; omega
  have hsz0 : (w.alloc (.cells #[.string src, .string dst, .pointer q] 100)).heap.size = w.heap.size + 1 := by simp
  have HSZ := Lib.hid hsz0
  have HVL := Lib.hid hvlt
  have HBN := Lib.hid hB
  have hpl := pos_le l src
  clear hsz0 hv hvlt hB
  go_enter Try.func47, Try.ntmps47
  go_wp2_with fail
  refine (place_any fb v l src _ (IsX.own HO0.out) hs (by omega)).mono ?_
  rintro e w1 ⟨rfl, hb1⟩
  have hs1 : w.heap.size < w1.heap.size := by have := hb1.size; rw [HSZ.out] at this; omega
  have HX1 := Lib.hid (HX0.out.below hb1 (by rw [HSZ.out]; omega))
  have HK1 := Lib.hid (HK0.out.trans (Kept.of_below (S := fun _ => False) hb1 (Nat.le_refl _)) (fun _ h => h.elim))
  have HO1 := Lib.hid (ownsRow_below HO0.out hb1 (Nat.le_refl _))
  clear hb1 HX0 HK0 HO0
  rw [show (tfind l src).isSome = false from by rw [ha.out]; rfl]
  obtain ⟨c0, c1, c2⟩ := BoxD.facts HX1.out
  have he : dst.toList.isEmpty = true := by rw [hd.out]; exact empty_toList
  go_wp2
  go_ret
  exact Tabled.mk HO1.out HK1.out (fun k hk => .inl (by rw [← (show v.ownBlock = v.ownBlock from rfl)]; exact hk))

set_option maxRecDepth 100000 in
set_option maxHeartbeats 4000000 in
theorem behind_0s (fb : Nat → Nat) (v : Value) (l : Tbl) (src dst : ByteArray) (q : Option Addr) (f : Nat) (w : World) (hv : w.ownsRow 0 104 2 v l.length (row (ent fb) l)) (hs : Sorted l) (hl : l.length ≤ 1048575) (ha : Hid (tfind l src = none)) (hd : Hid (dst ≠ noName)) (hq : Hid (q = some ⟨fb f, 0, none⟩)) (g0 : Nat) (hg : Hid (tfind l dst = some g0)) :
    Calls Try.prog 47 #[v, .agg #[.string src, .string dst, .pointer q]] w (Tabled fb w v (wth l dst f)) := by
  have hvlt := fun k hk => (hv.lt k hk).2
  have HX0 := Lib.hid (Blk.new w #[.string src, .string dst, .pointer q] 100)
  have HK0 := Lib.hid ((Kept.refl (fun k => v.ownBlock = some k) w).alloc (.cells #[.string src, .string dst, .pointer q] 100))
  have HO0 := Lib.hid (ownsRow_kept hv ((Kept.refl (fun _ => False) w).alloc (.cells #[.string src, .string dst, .pointer q] 100)) (fun _ _ h => h))
  have hB : ¬ v.ownBlock = some w.heap.size := fun e => by have := hvlt _ e; omega
  have hsz0 : (w.alloc (.cells #[.string src, .string dst, .pointer q] 100)).heap.size = w.heap.size + 1 := by simp
  have HSZ := Lib.hid hsz0
  have HVL := Lib.hid hvlt
  have HBN := Lib.hid hB
  have hpl := pos_le l src
  clear hsz0 hv hvlt hB
  go_enter Try.func47, Try.ntmps47
  go_wp2_with fail
  refine (place_any fb v l src _ (IsX.own HO0.out) hs (by omega)).mono ?_
  rintro e w1 ⟨rfl, hb1⟩
  have hs1 : w.heap.size < w1.heap.size := by have := hb1.size; rw [HSZ.out] at this; omega
  have HX1 := Lib.hid (HX0.out.below hb1 (by rw [HSZ.out]; omega))
  have HK1 := Lib.hid (HK0.out.trans (Kept.of_below (S := fun _ => False) hb1 (Nat.le_refl _)) (fun _ h => h.elim))
  have HO1 := Lib.hid (ownsRow_below HO0.out hb1 (Nat.le_refl _))
  clear hb1 HX0 HK0 HO0
  rw [show (tfind l src).isSome = false from by rw [ha.out]; rfl]
  obtain ⟨c0, c1, c2⟩ := BoxD.facts HX1.out
  have he : dst.toList.isEmpty = false := some_toList hd.out
  have hpt := pos_le l dst
  go_wp2_with fail
  refine (place_any fb v l dst _ (IsX.own HO1.out) hs (by omega)).mono ?_
  rintro e w3 ⟨rfl, hb3⟩
  have hs3 : w.heap.size < w3.heap.size := Nat.lt_of_lt_of_le hs1 hb3.size
  have HX3 := Lib.hid (HX1.out.below hb3 hs1)
  have HK3 := Lib.hid (HK1.out.trans (Kept.of_below (S := fun _ => False) hb3 (Nat.le_refl _)) (fun _ h => h.elim))
  have HO3 := Lib.hid (ownsRow_below HO1.out hb3 (Nat.le_refl _))
  clear hb3 HX1 HK1 HO1 hs1 c0 c1 c2
  obtain ⟨c0, c1, c2⟩ := BoxD.facts HX3.out
  rw [show (tfind l dst).isSome = true from by rw [hg.out]; rfl]
  have hat := tfind_at hs hg.out
  have hpl2 : pos l dst < l.length := (List.getElem?_eq_some_iff.1 hat).1
  obtain ⟨g, hgo, hidx, hcells, hfree, hst⟩ := indexAt_own HO3.out 79 _ Try.underlying79 Try.sizeEnt (pos l dst) hpl2
  have hc1 := hcells 1 (by decide)
  rw [row_get (ent_len fb) hat 1 (by decide)] at hc1
  have hc1' : w3.cell? ⟨g, pos l dst * 2 + 1, none⟩ = some (.pointer (some ⟨fb g0, 0, none⟩)) := hc1
  have hf1 := hfree (pos l dst * 2 + 1)
  have HST := Lib.hid (hst (pos l dst * 2 + 1) (.pointer q))
  have HG := Lib.hid hgo
  have HAT := Lib.hid hat
  clear hcells hfree hst hgo hat hc1
  go_wp2
  go_ret
  refine Tabled.mk (v' := v) ?_ (HK3.out.setCell (p := ⟨g, pos l dst * 2 + 1, none⟩) (.inl ?_) (.pointer q)) (fun k hk => .inl (by rw [← (show v.ownBlock = v.ownBlock from rfl)]; exact hk))
  · have h := HST.out
    rw [row_set (ent_len fb) HAT.out 1 (by decide) (.pointer q) (y := (dst, f)) (by rw [hq.out]; rfl), set_pos hs hg.out] at h
    have hlen : (wth l dst f).length = l.length := by rw [← set_pos hs hg.out, List.length_set]
    rw [hlen]
    exact h
  · rw [← (show v.ownBlock = v.ownBlock from rfl)]
    exact HG.out

set_option maxRecDepth 100000 in
set_option maxHeartbeats 4000000 in
theorem behind_0i (fb : Nat → Nat) (v : Value) (l : Tbl) (src dst : ByteArray) (q : Option Addr) (f : Nat) (w : World) (hv : w.ownsRow 0 104 2 v l.length (row (ent fb) l)) (hs : Sorted l) (hl : l.length ≤ 1048575) (ha : Hid (tfind l src = none)) (hd : Hid (dst ≠ noName)) (hq : Hid (q = some ⟨fb f, 0, none⟩)) (hg : Hid (tfind l dst = none)) :
    Calls Try.prog 47 #[v, .agg #[.string src, .string dst, .pointer q]] w (Tabled fb w v (wth l dst f)) := by
  have hvlt := fun k hk => (hv.lt k hk).2
  have HX0 := Lib.hid (Blk.new w #[.string src, .string dst, .pointer q] 100)
  have HK0 := Lib.hid ((Kept.refl (fun k => v.ownBlock = some k) w).alloc (.cells #[.string src, .string dst, .pointer q] 100))
  have HO0 := Lib.hid (ownsRow_kept hv ((Kept.refl (fun _ => False) w).alloc (.cells #[.string src, .string dst, .pointer q] 100)) (fun _ _ h => h))
  have hB : ¬ v.ownBlock = some w.heap.size := fun e => by have := hvlt _ e; omega
  have hsz0 : (w.alloc (.cells #[.string src, .string dst, .pointer q] 100)).heap.size = w.heap.size + 1 := by simp
  have HSZ := Lib.hid hsz0
  have HVL := Lib.hid hvlt
  have HBN := Lib.hid hB
  have hpl := pos_le l src
  clear hsz0 hv hvlt hB
  go_enter Try.func47, Try.ntmps47
  go_wp2_with fail
  refine (place_any fb v l src _ (IsX.own HO0.out) hs (by omega)).mono ?_
  rintro e w1 ⟨rfl, hb1⟩
  have hs1 : w.heap.size < w1.heap.size := by have := hb1.size; rw [HSZ.out] at this; omega
  have HX1 := Lib.hid (HX0.out.below hb1 (by rw [HSZ.out]; omega))
  have HK1 := Lib.hid (HK0.out.trans (Kept.of_below (S := fun _ => False) hb1 (Nat.le_refl _)) (fun _ h => h.elim))
  have HO1 := Lib.hid (ownsRow_below HO0.out hb1 (Nat.le_refl _))
  clear hb1 HX0 HK0 HO0
  rw [show (tfind l src).isSome = false from by rw [ha.out]; rfl]
  obtain ⟨c0, c1, c2⟩ := BoxD.facts HX1.out
  have he : dst.toList.isEmpty = false := some_toList hd.out
  have hpt := pos_le l dst
  go_wp2_with fail
  refine (place_any fb v l dst _ (IsX.own HO1.out) hs (by omega)).mono ?_
  rintro e w3 ⟨rfl, hb3⟩
  have hs3 : w.heap.size < w3.heap.size := Nat.lt_of_lt_of_le hs1 hb3.size
  have HX3 := Lib.hid (HX1.out.below hb3 hs1)
  have HK3 := Lib.hid (HK1.out.trans (Kept.of_below (S := fun _ => False) hb3 (Nat.le_refl _)) (fun _ h => h.elim))
  have HO3 := Lib.hid (ownsRow_below HO1.out hb3 (Nat.le_refl _))
  clear hb3 HX1 HK1 HO1 hs1 c0 c1 c2
  obtain ⟨c0, c1, c2⟩ := BoxD.facts HX3.out
  rw [show (tfind l dst).isSome = false from by rw [hg.out]; rfl]
  have HX4 := Lib.hid (Blk.new w3 #[.string dst, .pointer q] 104)
  have HK4 := Lib.hid (HK3.out.alloc (.cells #[.string dst, .pointer q] 104))
  have HO4 := Lib.hid (ownsRow_kept HO3.out ((Kept.refl (fun _ => False) w3).alloc (.cells #[.string dst, .pointer q] 104)) (fun _ _ h => h))
  have HB4 := Lib.hid (show v.ownBlock ≠ some w3.heap.size from fun e => by have := (HO3.out.lt _ e).2; omega)
  go_wp2_with fail
  refine (tins_any fb v l dst f w3.heap.size (pos l dst) _ HO4.out hpt (by omega) HB4.out (by have h := HX4.out; unfold Blk at h; rw [h, hq.out])).mono ?_
  rintro e w5 ⟨v5, rfl, hown5, hk5, hl5⟩
  have hK5 : Kept (fun k => v.ownBlock = some k) w w5 := HK4.out.trans hk5 (fun j hj _ => by rw [← (show v.ownBlock = v.ownBlock from rfl)]; exact hj)
  have hV5 : ∀ k, v5.ownBlock = some k → v.ownBlock = some k ∨ w.heap.size ≤ k := fun k hk => by
    rcases hl5 with h | h
    · exact .inl (by rw [← (show v.ownBlock = v.ownBlock from rfl), ← h]; exact hk)
    · rw [h] at hk
      have : (w3.alloc (.cells #[.string dst, .pointer q] 104)).heap.size = k := by simpa using hk
      have h2 : (w3.alloc (.cells #[.string dst, .pointer q] 104)).heap.size = w3.heap.size + 1 := by simp
      exact .inr (by omega)
  have hO5 : w5.ownsRow 0 104 2 v5 (wth l dst f).length (row (ent fb) (wth l dst f)) := by
    rw [ins_pos hg.out] at hown5
    have hlen : (wth l dst f).length = l.length + 1 := by rw [wth_length, wout_none hg.out]
    rw [hlen]
    exact hown5
  have HE := Lib.hid (Tabled.mk hO5 hK5 hV5)
  clear hown5 hk5 hl5 hK5 hV5 hO5 c0 c1 c2
  go_wp2
  go_ret
  exact HE.out

set_option maxRecDepth 100000 in
set_option maxHeartbeats 4000000 in
theorem behind_1e (fb : Nat → Nat) (v : Value) (l : Tbl) (src dst : ByteArray) (q : Option Addr) (f : Nat) (w : World) (hv : w.ownsRow 0 104 2 v l.length (row (ent fb) l)) (hs : Sorted l) (hl : l.length ≤ 1048575) (f0 : Nat) (ha : Hid (tfind l src = some f0)) (hd : Hid (dst = noName)) :
    Calls Try.prog 47 #[v, .agg #[.string src, .string dst, .pointer q]] w (Tabled fb w v (wout l src)) := by
  have hvlt := fun k hk => (hv.lt k hk).2
  have HX0 := Lib.hid (Blk.new w #[.string src, .string dst, .pointer q] 100)
  have HK0 := Lib.hid ((Kept.refl (fun k => v.ownBlock = some k) w).alloc (.cells #[.string src, .string dst, .pointer q] 100))
  have HO0 := Lib.hid (ownsRow_kept hv ((Kept.refl (fun _ => False) w).alloc (.cells #[.string src, .string dst, .pointer q] 100)) (fun _ _ h => h))
  have hB : ¬ v.ownBlock = some w.heap.size := fun e => by have := hvlt _ e; omega
  have hsz0 : (w.alloc (.cells #[.string src, .string dst, .pointer q] 100)).heap.size = w.heap.size + 1 := by simp
  have HSZ := Lib.hid hsz0
  have HVL := Lib.hid hvlt
  have HBN := Lib.hid hB
  have hpl := pos_le l src
  clear hsz0 hv hvlt hB
  go_enter Try.func47, Try.ntmps47
  go_wp2_with fail
  refine (place_any fb v l src _ (IsX.own HO0.out) hs (by omega)).mono ?_
  rintro e w1 ⟨rfl, hb1⟩
  have hs1 : w.heap.size < w1.heap.size := by have := hb1.size; rw [HSZ.out] at this; omega
  have HX1 := Lib.hid (HX0.out.below hb1 (by rw [HSZ.out]; omega))
  have HK1 := Lib.hid (HK0.out.trans (Kept.of_below (S := fun _ => False) hb1 (Nat.le_refl _)) (fun _ h => h.elim))
  have HO1 := Lib.hid (ownsRow_below HO0.out hb1 (Nat.le_refl _))
  clear hb1 HX0 HK0 HO0
  rw [show (tfind l src).isSome = true from by rw [ha.out]; rfl]
  obtain ⟨c0, c1, c2⟩ := BoxD.facts HX1.out
  go_wp2_with fail
  refine (tdel_any fb v l (pos l src) _ HO1.out (wout_some hs ha.out).2 (by omega)).mono ?_
  rintro e w2 ⟨v1, rfl, hown2, hk2, hob⟩
  rw [(wout_some hs ha.out).1] at hown2
  have hs2 : w.heap.size < w2.heap.size := Nat.lt_of_lt_of_le hs1 hk2.size
  have HX2 := Lib.hid (HX1.out.kept hk2 HBN.out)
  have HK2 := Lib.hid (HK1.out.trans hk2 (fun j hj _ => hj))
  have HO2 := Lib.hid hown2
  have HOB := Lib.hid hob
  have HS2 := Lib.hid (wout_sorted hs src)
  have hl2 := wout_length l src
  clear hown2 hk2 hob HX1 HK1 HO1 hs1 c0 c1 c2
  obtain ⟨c0, c1, c2⟩ := BoxD.facts HX2.out
  have he : dst.toList.isEmpty = true := by rw [hd.out]; exact empty_toList
  go_wp2
  go_ret
  exact Tabled.mk HO2.out HK2.out (fun k hk => .inl (by rw [← (show v1.ownBlock = v.ownBlock from HOB.out)]; exact hk))

set_option maxRecDepth 100000 in
set_option maxHeartbeats 4000000 in
theorem behind_1s (fb : Nat → Nat) (v : Value) (l : Tbl) (src dst : ByteArray) (q : Option Addr) (f : Nat) (w : World) (hv : w.ownsRow 0 104 2 v l.length (row (ent fb) l)) (hs : Sorted l) (hl : l.length ≤ 1048575) (f0 : Nat) (ha : Hid (tfind l src = some f0)) (hd : Hid (dst ≠ noName)) (hq : Hid (q = some ⟨fb f, 0, none⟩)) (g0 : Nat) (hg : Hid (tfind (wout l src) dst = some g0)) :
    Calls Try.prog 47 #[v, .agg #[.string src, .string dst, .pointer q]] w (Tabled fb w v (wth (wout l src) dst f)) := by
  have hvlt := fun k hk => (hv.lt k hk).2
  have HX0 := Lib.hid (Blk.new w #[.string src, .string dst, .pointer q] 100)
  have HK0 := Lib.hid ((Kept.refl (fun k => v.ownBlock = some k) w).alloc (.cells #[.string src, .string dst, .pointer q] 100))
  have HO0 := Lib.hid (ownsRow_kept hv ((Kept.refl (fun _ => False) w).alloc (.cells #[.string src, .string dst, .pointer q] 100)) (fun _ _ h => h))
  have hB : ¬ v.ownBlock = some w.heap.size := fun e => by have := hvlt _ e; omega
  have hsz0 : (w.alloc (.cells #[.string src, .string dst, .pointer q] 100)).heap.size = w.heap.size + 1 := by simp
  have HSZ := Lib.hid hsz0
  have HVL := Lib.hid hvlt
  have HBN := Lib.hid hB
  have hpl := pos_le l src
  clear hsz0 hv hvlt hB
  go_enter Try.func47, Try.ntmps47
  go_wp2_with fail
  refine (place_any fb v l src _ (IsX.own HO0.out) hs (by omega)).mono ?_
  rintro e w1 ⟨rfl, hb1⟩
  have hs1 : w.heap.size < w1.heap.size := by have := hb1.size; rw [HSZ.out] at this; omega
  have HX1 := Lib.hid (HX0.out.below hb1 (by rw [HSZ.out]; omega))
  have HK1 := Lib.hid (HK0.out.trans (Kept.of_below (S := fun _ => False) hb1 (Nat.le_refl _)) (fun _ h => h.elim))
  have HO1 := Lib.hid (ownsRow_below HO0.out hb1 (Nat.le_refl _))
  clear hb1 HX0 HK0 HO0
  rw [show (tfind l src).isSome = true from by rw [ha.out]; rfl]
  obtain ⟨c0, c1, c2⟩ := BoxD.facts HX1.out
  go_wp2_with fail
  refine (tdel_any fb v l (pos l src) _ HO1.out (wout_some hs ha.out).2 (by omega)).mono ?_
  rintro e w2 ⟨v1, rfl, hown2, hk2, hob⟩
  rw [(wout_some hs ha.out).1] at hown2
  have hs2 : w.heap.size < w2.heap.size := Nat.lt_of_lt_of_le hs1 hk2.size
  have HX2 := Lib.hid (HX1.out.kept hk2 HBN.out)
  have HK2 := Lib.hid (HK1.out.trans hk2 (fun j hj _ => hj))
  have HO2 := Lib.hid hown2
  have HOB := Lib.hid hob
  have HS2 := Lib.hid (wout_sorted hs src)
  have hl2 := wout_length l src
  clear hown2 hk2 hob HX1 HK1 HO1 hs1 c0 c1 c2
  obtain ⟨c0, c1, c2⟩ := BoxD.facts HX2.out
  have he : dst.toList.isEmpty = false := some_toList hd.out
  have hpt := pos_le (wout l src) dst
  go_wp2_with fail
  refine (place_any fb v1 (wout l src) dst _ (IsX.own HO2.out) HS2.out (by omega)).mono ?_
  rintro e w3 ⟨rfl, hb3⟩
  have hs3 : w.heap.size < w3.heap.size := Nat.lt_of_lt_of_le hs2 hb3.size
  have HX3 := Lib.hid (HX2.out.below hb3 hs2)
  have HK3 := Lib.hid (HK2.out.trans (Kept.of_below (S := fun _ => False) hb3 (Nat.le_refl _)) (fun _ h => h.elim))
  have HO3 := Lib.hid (ownsRow_below HO2.out hb3 (Nat.le_refl _))
  clear hb3 HX2 HK2 HO2 hs2 c0 c1 c2
  obtain ⟨c0, c1, c2⟩ := BoxD.facts HX3.out
  rw [show (tfind (wout l src) dst).isSome = true from by rw [hg.out]; rfl]
  have hat := tfind_at HS2.out hg.out
  have hpl2 : pos (wout l src) dst < (wout l src).length := (List.getElem?_eq_some_iff.1 hat).1
  obtain ⟨g, hgo, hidx, hcells, hfree, hst⟩ := indexAt_own HO3.out 79 _ Try.underlying79 Try.sizeEnt (pos (wout l src) dst) hpl2
  have hc1 := hcells 1 (by decide)
  rw [row_get (ent_len fb) hat 1 (by decide)] at hc1
  have hc1' : w3.cell? ⟨g, pos (wout l src) dst * 2 + 1, none⟩ = some (.pointer (some ⟨fb g0, 0, none⟩)) := hc1
  have hf1 := hfree (pos (wout l src) dst * 2 + 1)
  have HST := Lib.hid (hst (pos (wout l src) dst * 2 + 1) (.pointer q))
  have HG := Lib.hid hgo
  have HAT := Lib.hid hat
  clear hcells hfree hst hgo hat hc1
  go_wp2
  go_ret
  refine Tabled.mk (v' := v1) ?_ (HK3.out.setCell (p := ⟨g, pos (wout l src) dst * 2 + 1, none⟩) (.inl ?_) (.pointer q)) (fun k hk => .inl (by rw [← (show v1.ownBlock = v.ownBlock from HOB.out)]; exact hk))
  · have h := HST.out
    rw [row_set (ent_len fb) HAT.out 1 (by decide) (.pointer q) (y := (dst, f)) (by rw [hq.out]; rfl), set_pos HS2.out hg.out] at h
    have hlen : (wth (wout l src) dst f).length = (wout l src).length := by rw [← set_pos HS2.out hg.out, List.length_set]
    rw [hlen]
    exact h
  · rw [← (show v1.ownBlock = v.ownBlock from HOB.out)]
    exact HG.out

set_option maxRecDepth 100000 in
set_option maxHeartbeats 4000000 in
theorem behind_1i (fb : Nat → Nat) (v : Value) (l : Tbl) (src dst : ByteArray) (q : Option Addr) (f : Nat) (w : World) (hv : w.ownsRow 0 104 2 v l.length (row (ent fb) l)) (hs : Sorted l) (hl : l.length ≤ 1048575) (f0 : Nat) (ha : Hid (tfind l src = some f0)) (hd : Hid (dst ≠ noName)) (hq : Hid (q = some ⟨fb f, 0, none⟩)) (hg : Hid (tfind (wout l src) dst = none)) :
    Calls Try.prog 47 #[v, .agg #[.string src, .string dst, .pointer q]] w (Tabled fb w v (wth (wout l src) dst f)) := by
  have hvlt := fun k hk => (hv.lt k hk).2
  have HX0 := Lib.hid (Blk.new w #[.string src, .string dst, .pointer q] 100)
  have HK0 := Lib.hid ((Kept.refl (fun k => v.ownBlock = some k) w).alloc (.cells #[.string src, .string dst, .pointer q] 100))
  have HO0 := Lib.hid (ownsRow_kept hv ((Kept.refl (fun _ => False) w).alloc (.cells #[.string src, .string dst, .pointer q] 100)) (fun _ _ h => h))
  have hB : ¬ v.ownBlock = some w.heap.size := fun e => by have := hvlt _ e; omega
  have hsz0 : (w.alloc (.cells #[.string src, .string dst, .pointer q] 100)).heap.size = w.heap.size + 1 := by simp
  have HSZ := Lib.hid hsz0
  have HVL := Lib.hid hvlt
  have HBN := Lib.hid hB
  have hpl := pos_le l src
  clear hsz0 hv hvlt hB
  go_enter Try.func47, Try.ntmps47
  go_wp2_with fail
  refine (place_any fb v l src _ (IsX.own HO0.out) hs (by omega)).mono ?_
  rintro e w1 ⟨rfl, hb1⟩
  have hs1 : w.heap.size < w1.heap.size := by have := hb1.size; rw [HSZ.out] at this; omega
  have HX1 := Lib.hid (HX0.out.below hb1 (by rw [HSZ.out]; omega))
  have HK1 := Lib.hid (HK0.out.trans (Kept.of_below (S := fun _ => False) hb1 (Nat.le_refl _)) (fun _ h => h.elim))
  have HO1 := Lib.hid (ownsRow_below HO0.out hb1 (Nat.le_refl _))
  clear hb1 HX0 HK0 HO0
  rw [show (tfind l src).isSome = true from by rw [ha.out]; rfl]
  obtain ⟨c0, c1, c2⟩ := BoxD.facts HX1.out
  go_wp2_with fail
  refine (tdel_any fb v l (pos l src) _ HO1.out (wout_some hs ha.out).2 (by omega)).mono ?_
  rintro e w2 ⟨v1, rfl, hown2, hk2, hob⟩
  rw [(wout_some hs ha.out).1] at hown2
  have hs2 : w.heap.size < w2.heap.size := Nat.lt_of_lt_of_le hs1 hk2.size
  have HX2 := Lib.hid (HX1.out.kept hk2 HBN.out)
  have HK2 := Lib.hid (HK1.out.trans hk2 (fun j hj _ => hj))
  have HO2 := Lib.hid hown2
  have HOB := Lib.hid hob
  have HS2 := Lib.hid (wout_sorted hs src)
  have hl2 := wout_length l src
  clear hown2 hk2 hob HX1 HK1 HO1 hs1 c0 c1 c2
  obtain ⟨c0, c1, c2⟩ := BoxD.facts HX2.out
  have he : dst.toList.isEmpty = false := some_toList hd.out
  have hpt := pos_le (wout l src) dst
  go_wp2_with fail
  refine (place_any fb v1 (wout l src) dst _ (IsX.own HO2.out) HS2.out (by omega)).mono ?_
  rintro e w3 ⟨rfl, hb3⟩
  have hs3 : w.heap.size < w3.heap.size := Nat.lt_of_lt_of_le hs2 hb3.size
  have HX3 := Lib.hid (HX2.out.below hb3 hs2)
  have HK3 := Lib.hid (HK2.out.trans (Kept.of_below (S := fun _ => False) hb3 (Nat.le_refl _)) (fun _ h => h.elim))
  have HO3 := Lib.hid (ownsRow_below HO2.out hb3 (Nat.le_refl _))
  clear hb3 HX2 HK2 HO2 hs2 c0 c1 c2
  obtain ⟨c0, c1, c2⟩ := BoxD.facts HX3.out
  rw [show (tfind (wout l src) dst).isSome = false from by rw [hg.out]; rfl]
  have HX4 := Lib.hid (Blk.new w3 #[.string dst, .pointer q] 104)
  have HK4 := Lib.hid (HK3.out.alloc (.cells #[.string dst, .pointer q] 104))
  have HO4 := Lib.hid (ownsRow_kept HO3.out ((Kept.refl (fun _ => False) w3).alloc (.cells #[.string dst, .pointer q] 104)) (fun _ _ h => h))
  have HB4 := Lib.hid (show v1.ownBlock ≠ some w3.heap.size from fun e => by have := (HO3.out.lt _ e).2; omega)
  go_wp2_with fail
  refine (tins_any fb v1 (wout l src) dst f w3.heap.size (pos (wout l src) dst) _ HO4.out hpt (by omega) HB4.out (by have h := HX4.out; unfold Blk at h; rw [h, hq.out])).mono ?_
  rintro e w5 ⟨v5, rfl, hown5, hk5, hl5⟩
  have hK5 : Kept (fun k => v.ownBlock = some k) w w5 := HK4.out.trans hk5 (fun j hj _ => by rw [← (show v1.ownBlock = v.ownBlock from HOB.out)]; exact hj)
  have hV5 : ∀ k, v5.ownBlock = some k → v.ownBlock = some k ∨ w.heap.size ≤ k := fun k hk => by
    rcases hl5 with h | h
    · exact .inl (by rw [← (show v1.ownBlock = v.ownBlock from HOB.out), ← h]; exact hk)
    · rw [h] at hk
      have : (w3.alloc (.cells #[.string dst, .pointer q] 104)).heap.size = k := by simpa using hk
      have h2 : (w3.alloc (.cells #[.string dst, .pointer q] 104)).heap.size = w3.heap.size + 1 := by simp
      exact .inr (by omega)
  have hO5 : w5.ownsRow 0 104 2 v5 (wth (wout l src) dst f).length (row (ent fb) (wth (wout l src) dst f)) := by
    rw [ins_pos hg.out] at hown5
    have hlen : (wth (wout l src) dst f).length = (wout l src).length + 1 := by rw [wth_length, wout_none hg.out]
    rw [hlen]
    exact hown5
  have HE := Lib.hid (Tabled.mk hO5 hK5 hV5)
  clear hown5 hk5 hl5 hK5 hV5 hO5 c0 c1 c2
  go_wp2
  go_ret
  exact HE.out

theorem behind_any (fb : Nat → Nat) (v : Value) (l : Tbl) (x : Dd) (q : Option Addr) (w : World) (hv : w.ownsRow 0 104 2 v l.length (row (ent fb) l)) (hs : Sorted l) (hl : l.length ≤ 1048575) (hq : x.dst ≠ noName → q = some ⟨fb x.file, 0, none⟩) :
    Calls Try.prog 47 #[v, .agg #[.string x.src, .string x.dst, .pointer q]] w (Tabled fb w v (turnT l x)) := by
  unfold turnT
  cases ha : tfind l x.src with
  | none =>
    rw [wout_none ha]
    by_cases hd : x.dst = noName
    · rw [if_pos hd]
      exact behind_0e fb v l x.src x.dst q 0 w hv hs hl (Lib.hid ha) (Lib.hid hd)
    · rw [if_neg hd]
      cases hg : tfind l x.dst with
      | none => exact behind_0i fb v l x.src x.dst q x.file w hv hs hl (Lib.hid ha) (Lib.hid hd) (Lib.hid (hq hd)) (Lib.hid hg)
      | some g0 => exact behind_0s fb v l x.src x.dst q x.file w hv hs hl (Lib.hid ha) (Lib.hid hd) (Lib.hid (hq hd)) g0 (Lib.hid hg)
  | some f0 =>
    by_cases hd : x.dst = noName
    · rw [if_pos hd]
      exact behind_1e fb v l x.src x.dst q 0 w hv hs hl f0 (Lib.hid ha) (Lib.hid hd)
    · rw [if_neg hd]
      cases hg : tfind (wout l x.src) x.dst with
      | none => exact behind_1i fb v l x.src x.dst q x.file w hv hs hl f0 (Lib.hid ha) (Lib.hid hd) (Lib.hid (hq hd)) (Lib.hid hg)
      | some g0 => exact behind_1s fb v l x.src x.dst q x.file w hv hs hl f0 (Lib.hid ha) (Lib.hid hd) (Lib.hid (hq hd)) g0 (Lib.hid hg)

end Go.Proofs.Ytnofabeajcdddaa
