/- Package index: Put and New, by contracts. -/
import Derived.Test.YtbloedaidbfehaaIdx
import Derived.Test.YtbloedaidbfehaaOrdE
import Derived.StillTailTactics
namespace Go.Proofs.Ytbloedaidbfehaa
open Go.RowKit Go.Cor

abbrev eFull : Value := .iface 53 (.int .i64 11)
theorem put_nil (p : Pos) (w : World) :
    Calls Try.prog 9 #[.pointer none, pval p] w fun e w' => e = .returned eFull ∧ Below w.heap.size w w' := by
  go_enter Try.func9, Try.ntmps9
  go_wp2
  go_ret
  exact ⟨rfl, (Below.refl _ _).alloc (Nat.le_refl _) _⟩

set_option maxHeartbeats 1000000 in
/-- Five cells at an address set. -/
def set5o (w : World) (g o : Nat) (p : Pos) : World := ((((w.setCell ⟨g, o, none⟩ (.int .u64 (p.key : Int))).setCell ⟨g, o + 1, none⟩ (.int .i64 p.off)).setCell ⟨g, o + 2, none⟩ (.int .i64 p.len)).setCell ⟨g, o + 3, none⟩ (.int .u32 (p.cookie : Int))).setCell ⟨g, o + 4, none⟩ (.bool p.gone)
theorem row_set5 {l : List Pos} {i : Nat} (h : i < l.length) (p : Pos) :
    (((((row pcells l).set (i * 5) (.int .u64 (p.key : Int))).set (i * 5 + 1) (.int .i64 p.off)).set (i * 5 + 2) (.int .i64 p.len)).set (i * 5 + 3) (.int .u32 (p.cookie : Int))).set (i * 5 + 4) (.bool p.gone) = row pcells (l.set i p) := by
  induction l generalizing i with
  | nil => simp at h
  | cons q r ih =>
    cases i with
    | zero => rfl
    | succ i =>
      have e := ih (i := i) (by simpa using h)
      rw [List.set_cons_succ, row_cons, row_cons, ← e, show (i + 1) * 5 = i * 5 + 1 + 1 + 1 + 1 + 1 from by omega]
      rfl
theorem Kept.set5o {S : Nat → Prop} {a w : World} {g o : Nat} {p : Pos} (h : Kept S a w) (hg : S g ∨ a.heap.size ≤ g) : Kept S a (set5o w g o p) :=
  ((((h.setCell hg _).setCell hg _).setCell hg _).setCell hg _).setCell hg _
theorem At.set {w : World} {g gv i : Nat} {v : Value} {l : List Pos} {p : Pos} (h : At w g v l) (hi : i < l.length) (hgv : v.ownBlock = some gv) (hp : Asc (l.set i p)) : At (set5o w gv (i * 5) p) g v (l.set i p) := by
  have hne : gv ≠ g := fun e => h.apart (e ▸ hgv)
  refine ⟨((((h.blk.other (by exact hne) _).other (by exact hne) _).other (by exact hne) _).other (by exact hne) _).other (by exact hne) _, ?_, h.apart, hp⟩
  obtain ⟨x, c, rfl, _⟩ := ownsRow_slice h.row
  have hx : ∃ ad, x = some ad := by
    cases x with
    | none => simp [Value.ownBlock] at hgv
    | some ad => exact ⟨ad, rfl⟩
  obtain ⟨ad, rfl⟩ := hx
  have st : ∀ {W : World} {xs : List Value} (j : Nat) (u : Value), W.ownsRow 0 32 5 (.slice (some ad) l.length c) l.length xs → (W.setCell ⟨gv, j, none⟩ u).ownsRow 0 32 5 (.slice (some ad) l.length c) l.length (xs.set j u) := by
    intro W xs j u hW
    obtain ⟨g', hg', _, _, _, hs⟩ := indexAt_own (P := Try.prog) hW 39 32 Try.underlying39 Try.sizePos i hi
    have : g' = gv := by
      rw [hgv] at hg'
      exact (Option.some.inj hg').symm
    subst this
    exact hs j u
  rw [List.length_set, ← row_set5 hi p]
  exact st _ _ (st _ _ (st _ _ (st _ _ (st _ _ h.row))))

set_option maxRecDepth 100000 in
theorem put_any (g : Nat) (v : Value) (l : List Pos) (p : Pos) (w : World) (h : At w g v l) (hl : l.length < 4096) :
    Calls Try.prog 9 #[.pointer (some ⟨g, 0, none⟩), pval p] w fun e w' =>
      e = .returned .nilIface ∧ ∃ v', At w' g v' (put l p) ∧ Kept (own g v) w w' ∧ ∀ k, own g v' k → own g v k ∨ w.heap.size ≤ k := by
  have H := Lib.hid h
  have hgw := h.blk.lt
  have HA := Lib.hid (h.below ((Below.refl w.heap.size w).alloc (Nat.le_refl _) (.cells #[.int .u64 (p.key : Int), .int .i64 p.off, .int .i64 p.len, .int .u32 (p.cookie : Int), .bool p.gone] 32)) (Nat.le_refl _))
  have HF := Lib.hid (Blk.new w #[.int .u64 (p.key : Int), .int .i64 p.off, .int .i64 p.len, .int .u32 (p.cookie : Int), .bool p.gone] 32)
  have hb1 : Below w.heap.size w (w.alloc (.cells #[.int .u64 (p.key : Int), .int .i64 p.off, .int .i64 p.len, .int .u32 (p.cookie : Int), .bool p.gone] 32)) := (Below.refl w.heap.size w).alloc (Nat.le_refl _) _
  obtain ⟨w1, hw1⟩ : ∃ w1, w.alloc (.cells #[.int .u64 (p.key : Int), .int .i64 p.off, .int .i64 p.len, .int .u32 (p.cookie : Int), .bool p.gone] 32) = w1 := ⟨_, rfl⟩
  have hs1 : w1.heap.size = w.heap.size + 1 := by rw [← hw1]; simp
  rw [hw1] at HA HF hb1
  have k0 : w1.cell? ⟨g, 0, none⟩ = some v := HA.out.blk.cell 0 rfl
  obtain ⟨q0, _⟩ := blk5_facts HF.out
  have HB1 := Lib.hid hb1
  clear h hb1
  go_enter Try.func9, Try.ntmps9
  go_upto_region 3 with fail
  clear hw1
  have S0 : w1.drew.cell? ⟨g, 0, none⟩ = some v ∧ w1.drew.cell? ⟨w.heap.size, 0, none⟩ = some (.int .u64 (p.key : Int)) := ⟨k0, q0⟩
  have S2 : ∀ wx, Below w1.drew.heap.size w1.drew wx → wx.cell? ⟨g, 0, none⟩ = some v ∧ wx.cell? ⟨w.heap.size, 0, none⟩ = some (.int .u64 (p.key : Int)) := fun wx hb =>
    ⟨(hb.cell (cell_lt S0.1)).trans S0.1, (hb.cell (cell_lt S0.2)).trans S0.2⟩
  obtain ⟨r, hr⟩ : ∃ r, (fnd l p.key).isSome = r := ⟨_, rfl⟩
  have hpl := place_any v l p.key w1.drew HA.out.drew.isP HA.out.asc (by omega)
  rw [hr] at hpl
  have HPL := Lib.hid hpl
  have HR := Lib.hid hr
  clear hpl hr
  go_region_held3 (fun wx => wx.cell? ⟨g, 0, none⟩ = some v ∧ wx.cell? ⟨w.heap.size, 0, none⟩ = some (.int .u64 (p.key : Int))) (first | exact S0 | exact S2 _ (by assumption)) (first | (go_at_call 21; refine HPL.out.mono ?_; rintro e w2 ⟨rfl, hb2⟩))
  clear S0 S2 HPL
  have HA2 := Lib.hid (HA.out.drew.below hb2 (Nat.le_refl _))
  have HF2 := Lib.hid (HF.out.drew.below hb2 (by have := HF.out.lt; exact this))
  have HB2 := Lib.hid (HB1.out.drew.trans (hb2.mono (by show w.heap.size ≤ w1.heap.size; omega)))
  have hs2 : w.heap.size < w2.heap.size := by have := hb2.size; have h9 : w1.drew.heap.size = w1.heap.size := rfl; omega
  clear hb2 k0 q0 hs1
  have k0 : w2.cell? ⟨g, 0, none⟩ = some v := HA2.out.blk.cell 0 rfl
  obtain ⟨q0, q1, q2, q3, q4, _⟩ := blk5_facts HF2.out
  obtain ⟨i, hi⟩ : ∃ i, psn l p.key = i := ⟨_, rfl⟩
  have hil := psn_le l p.key
  rw [hi] at hil ⊢
  have HI := Lib.hid hi
  clear hi
  cases r with
  | true =>
    obtain ⟨p0, hp0⟩ := Option.isSome_iff_exists.1 HR.out
    have hlt : i < l.length := by
      have := (List.getElem?_eq_some_iff.1 (fnd_at hp0).1).1
      rw [HI.out] at this
      exact this
    have HP := Lib.hid (show put l p = l.set i p from by rw [put_there hp0, HI.out])
    clear hp0
    obtain ⟨gv, hgv, hidx, hc, hf, hst⟩ := indexAt_own (P := Try.prog) HA2.out.row 39 32 Try.underlying39 Try.sizePos i hlt
    have hne : gv ≠ g := fun e => HA2.out.apart (e ▸ hgv)
    obtain ⟨c0, c1, c2, c3, c4⟩ := pcells_at hlt hc
    have HV := Lib.hid hgv
    have HIX := Lib.hid hidx
    clear hc hst hgv
    go_upto_region 5 with fail
    go_still_tail 7, (by kernel_rfl)
    change wpList _ _ _ _ _ w2.drew
    go_wp2
    go_ret
    have hasc : Asc (l.set i p) := by rw [← HP.out]; exact put_asc HA2.out.asc p
    refine ⟨rfl, v, ?_, ?_, fun k hk => .inl hk⟩
    · rw [HP.out]
      exact (HA2.out.set hlt HV.out hasc).drew
    · exact (Kept.set5o (Kept.of_below HB2.out (Nat.le_refl _)) (.inl (.inr HV.out))).drew
  | false =>
    have hno : fnd l p.key = none := Option.not_isSome_iff_eq_none.1 (by rw [HR.out]; decide)
    have HP := Lib.hid (show put l p = l.take i ++ p :: l.drop i from by rw [put_new hno, HI.out])
    have HL := Lib.hid (length_put_new hno)
    have hlen := fun W => len_X (P := Try.prog) HA2.out.isP 39 3 _ Try.underlying39 W
    have hl' : ¬ ((4096 : Int) ≤ (l.length : Int)) := by omega
    clear hno
    obtain ⟨w3, hw3⟩ : ∃ w3, w2.drew.alloc (.cells #[.int .u64 (p.key : Int), .int .i64 p.off, .int .i64 p.len, .int .u32 (p.cookie : Int), .bool p.gone] 32) = w3 := ⟨_, rfl⟩
    have HA3 := Lib.hid (show At w3 g v l from by rw [← hw3]; exact HA2.out.drew.below ((Below.refl _ _).alloc (Nat.le_refl _) _) (Nat.le_refl _))
    have HF3 := Lib.hid (show w3.heap[w2.heap.size]? = some (.cells #[.int .u64 (p.key : Int), .int .i64 p.off, .int .i64 p.len, .int .u32 (p.cookie : Int), .bool p.gone] 32 (0, 0)) from by rw [← hw3]; exact Blk.new w2.drew _ _)
    have HB3 := Lib.hid (show Below w.heap.size w w3 from by rw [← hw3]; exact HB2.out.drew.alloc (by show w.heap.size ≤ w2.heap.size; omega) _)
    have hs3 : w3.heap.size = w2.heap.size + 1 := by rw [← hw3]; simp
    have k3 : w3.cell? ⟨g, 0, none⟩ = some v := HA3.out.blk.cell 0 rfl
    have hav : v.ownBlock ≠ some w2.heap.size := fun e => by have := HA2.out.lt _ (.inr e); omega
    have HIN := Lib.hid (tins_any v l p w2.heap.size i w3 HA3.out.row hil (by omega) hav HF3.out)
    have S0 : w2.drew.cell? ⟨g, 0, none⟩ = some v ∧ w2.drew.cell? ⟨w.heap.size, 0, none⟩ = some (.int .u64 (p.key : Int)) ∧ w2.drew.cell? ⟨w.heap.size, 1, none⟩ = some (.int .i64 p.off) ∧ w2.drew.cell? ⟨w.heap.size, 2, none⟩ = some (.int .i64 p.len) ∧ w2.drew.cell? ⟨w.heap.size, 3, none⟩ = some (.int .u32 (p.cookie : Int)) ∧ w2.drew.cell? ⟨w.heap.size, 4, none⟩ = some (.bool p.gone) := ⟨k0, q0, q1, q2, q3, q4⟩
    have S1 : w3.cell? ⟨g, 0, none⟩ = some v ∧ w3.cell? ⟨w.heap.size, 0, none⟩ = some (.int .u64 (p.key : Int)) ∧ w3.cell? ⟨w.heap.size, 1, none⟩ = some (.int .i64 p.off) ∧ w3.cell? ⟨w.heap.size, 2, none⟩ = some (.int .i64 p.len) ∧ w3.cell? ⟨w.heap.size, 3, none⟩ = some (.int .u32 (p.cookie : Int)) ∧ w3.cell? ⟨w.heap.size, 4, none⟩ = some (.bool p.gone) := by
      have cl : ∀ (q : Addr) (u : Value), q.block < w2.heap.size → w2.cell? q = some u → w3.cell? q = some u := fun q u hq h => by rw [← hw3]; exact (Below.cell (B := w2.heap.size) ((Below.refl _ w2.drew).alloc (Nat.le_refl _) _) hq).trans h
      exact ⟨k3, cl _ _ hs2 q0, cl _ _ hs2 q1, cl _ _ hs2 q2, cl _ _ hs2 q3, cl _ _ hs2 q4⟩
    go_upto_region 9 with fail
    have F : ∀ wx, Kept (fun k => v.ownBlock = some k) w3 wx → wx.cell? ⟨g, 0, none⟩ = some v ∧ wx.cell? ⟨w.heap.size, 0, none⟩ = some (.int .u64 (p.key : Int)) ∧ wx.cell? ⟨w.heap.size, 1, none⟩ = some (.int .i64 p.off) ∧ wx.cell? ⟨w.heap.size, 2, none⟩ = some (.int .i64 p.len) ∧ wx.cell? ⟨w.heap.size, 3, none⟩ = some (.int .u32 (p.cookie : Int)) ∧ wx.cell? ⟨w.heap.size, 4, none⟩ = some (.bool p.gone) := fun wx hk =>
      have cl : ∀ (q : Addr) (u : Value), (q.block = g ∨ q.block = w.heap.size) → w3.cell? q = some u → wx.cell? q = some u := fun q u hq h => hk.cell h (fun e => by
        rcases hq with hq | hq
        · exact HA3.out.apart (hq ▸ e)
        · have h9 := H.out.lt _ (.inr e)
          rw [hq] at h9
          exact Nat.lt_irrefl _ h9)
      ⟨cl _ _ (.inl rfl) S1.1, cl _ _ (.inr rfl) S1.2.1, cl _ _ (.inr rfl) S1.2.2.1, cl _ _ (.inr rfl) S1.2.2.2.1, cl _ _ (.inr rfl) S1.2.2.2.2.1, cl _ _ (.inr rfl) S1.2.2.2.2.2⟩
    refine AnyE.start (S := (fun wx => wx.cell? ⟨g, 0, none⟩ = some v ∧ wx.cell? ⟨w.heap.size, 0, none⟩ = some (.int .u64 (p.key : Int)) ∧ wx.cell? ⟨w.heap.size, 1, none⟩ = some (.int .i64 p.off) ∧ wx.cell? ⟨w.heap.size, 2, none⟩ = some (.int .i64 p.len) ∧ wx.cell? ⟨w.heap.size, 3, none⟩ = some (.int .u32 (p.cookie : Int)) ∧ wx.cell? ⟨w.heap.size, 4, none⟩ = some (.bool p.gone))) 11 (by kernel_rfl) S0 (fun hHeld => ?_)
    refine AnyE.take (i := 0) (v := ?_) rfl (by kernel_rfl) (by kernel_rfl) (by kernel_rfl) (by kernel_rfl) (fun _ _ _ h => h) (Or.inl ⟨by rfl, ?_⟩) (by assumption) ?_
    rotate_left 1
    · intro w hSw
      (try dsimp only at hSw)
      go_simp
      all_goals (with_reducible rfl)
    try simp only [Act.put, List.getElem_toArray, List.getElem_cons_zero, List.getElem_cons_succ, List.setIfInBounds_toArray, List.set_cons_zero, List.set_cons_succ]
    refine AnyE.take (i := 1) (v := ?_) rfl (by kernel_rfl) (by kernel_rfl) (by kernel_rfl) (by kernel_rfl) (fun _ _ _ h => h) (Or.inl ⟨by rfl, ?_⟩) (by assumption) ?_
    rotate_left 1
    · intro w hSw
      (try dsimp only at hSw)
      go_simp
      all_goals (with_reducible rfl)
    try simp only [Act.put, List.getElem_toArray, List.getElem_cons_zero, List.getElem_cons_succ, List.setIfInBounds_toArray, List.set_cons_zero, List.set_cons_succ]
    refine AnyE.take (i := 2) (v := ?_) rfl (by kernel_rfl) (by kernel_rfl) (by kernel_rfl) (by kernel_rfl) (fun _ _ _ h => h) (Or.inl ⟨by rfl, ?_⟩) (by assumption) ?_
    rotate_left 1
    · intro w hSw
      (try dsimp only at hSw)
      go_simp
      all_goals (with_reducible rfl)
    try simp only [Act.put, List.getElem_toArray, List.getElem_cons_zero, List.getElem_cons_succ, List.setIfInBounds_toArray, List.set_cons_zero, List.set_cons_succ]
    refine AnyE.take (i := 3) (v := ?_) rfl (by kernel_rfl) (by kernel_rfl) (by kernel_rfl) (by kernel_rfl) (fun _ _ _ h => h) (Or.inl ⟨by rfl, ?_⟩) (by assumption) ?_
    rotate_left 1
    · intro w hSw
      (try dsimp only at hSw)
      go_simp
      all_goals (with_reducible rfl)
    try simp only [Act.put, List.getElem_toArray, List.getElem_cons_zero, List.getElem_cons_succ, List.setIfInBounds_toArray, List.set_cons_zero, List.set_cons_succ]
    refine AnyE.take (i := 4) (v := ?_) rfl (by kernel_rfl) (by kernel_rfl) (by kernel_rfl) (by kernel_rfl) (fun _ _ _ h => h) (Or.inl ⟨by rfl, ?_⟩) (by assumption) ?_
    rotate_left 1
    · intro w hSw
      (try dsimp only at hSw)
      go_simp
      all_goals (with_reducible rfl)
    try simp only [Act.put, List.getElem_toArray, List.getElem_cons_zero, List.getElem_cons_succ, List.setIfInBounds_toArray, List.set_cons_zero, List.set_cons_succ]
    refine AnyE.take (i := 5) (v := ?_) rfl (by kernel_rfl) (by kernel_rfl) (by kernel_rfl) (by kernel_rfl) (fun _ _ _ h => h) (Or.inl ⟨by rfl, ?_⟩) (by assumption) ?_
    rotate_left 1
    · intro w hSw
      (try dsimp only at hSw)
      go_simp
      all_goals (with_reducible rfl)
    try simp only [Act.put, List.getElem_toArray, List.getElem_cons_zero, List.getElem_cons_succ, List.setIfInBounds_toArray, List.set_cons_zero, List.set_cons_succ]
    refine AnyE.take (i := 6) (v := ?_) rfl (by kernel_rfl) (by kernel_rfl) (by kernel_rfl) (by kernel_rfl) (fun _ _ _ h => h) (Or.inl ⟨by rfl, ?_⟩) (by assumption) ?_
    rotate_left 1
    · intro w hSw
      (try dsimp only at hSw)
      go_simp
      all_goals (with_reducible rfl)
    try simp only [Act.put, List.getElem_toArray, List.getElem_cons_zero, List.getElem_cons_succ, List.setIfInBounds_toArray, List.set_cons_zero, List.set_cons_succ]
    refine AnyE.next (rs := [7]) (by kernel_rfl) (by simp) ?_
    refine AllE.cons rfl (fun K hK => ?_) AllE.nil
    go_simp
    refine hK.out _ _ (by first | exact S1 | (rw [hw3]; exact S1)) (fun hHeld => ?_)
    clear hK K
    try simp only [Act.put, List.getElem_toArray, List.getElem_cons_zero, List.getElem_cons_succ, List.setIfInBounds_toArray, List.set_cons_zero, List.set_cons_succ]
    refine AnyE.next (rs := [8]) (by kernel_rfl) (by simp) ?_
    refine AllE.cons rfl (fun K hK => ?_) AllE.nil
    go_simp
    refine HIN.out.mono ?_
    rintro e w4 ⟨v', rfl, h1, h2, h3⟩
    obtain ⟨x4, c4, rfl, _, _⟩ := ownsRow_slice h1
    have K4 : w4.cell? ⟨g, 0, none⟩ = some v := h2.cell k3 (fun e => HA3.out.apart e)
    have Z4 : w4.frozen? ⟨g, 0, none⟩ = false := (h2.frozen (p := ⟨g, 0, none⟩) HA3.out.blk.lt (fun e => HA3.out.apart e)).trans (HA3.out.blk.free 0)
    refine hK.out _ _ (F _ h2) (fun hHeld => ?_)
    clear hK K
    try simp only [Act.put, List.getElem_toArray, List.getElem_cons_zero, List.getElem_cons_succ, List.setIfInBounds_toArray, List.set_cons_zero, List.set_cons_succ]
    refine AnyE.next (rs := [9]) (by kernel_rfl) (by simp) ?_
    refine AllE.cons rfl (fun K hK => ?_) AllE.nil
    go_simp
    refine hK.out _ _ (F _ h2) (fun hHeld => ?_)
    clear hK K
    try simp only [Act.put, List.getElem_toArray, List.getElem_cons_zero, List.getElem_cons_succ, List.setIfInBounds_toArray, List.set_cons_zero, List.set_cons_succ]
    refine AnyE.next (rs := [10]) (by kernel_rfl) (by simp) ?_
    refine AllE.cons rfl (fun K hK => ?_) AllE.nil
    go_simp
    refine hK.out _ _ (F _ h2) (fun hHeld => ?_)
    clear hK K
    try simp only [Act.put, List.getElem_toArray, List.getElem_cons_zero, List.getElem_cons_succ, List.setIfInBounds_toArray, List.set_cons_zero, List.set_cons_succ]
    refine AnyE.next (rs := [11]) (by kernel_rfl) (by simp) ?_
    refine AllE.last rfl (fun K hK => ?_)
    go_simp
    refine hK.out _ _ ?_
    clear hK K
    try simp only [Act.put, List.getElem_toArray, List.getElem_cons_zero, List.getElem_cons_succ, List.setIfInBounds_toArray, List.set_cons_zero, List.set_cons_succ]
    refine AnyE.done (by kernel_rfl) ?_ _
    go_wp2
    go_ret
    have hapart : (Value.slice x4 (l.length + 1) c4).ownBlock ≠ some g := by
      rcases h3 with h3 | h3
      · rw [h3]
        exact HA3.out.apart
      · rw [h3]
        intro e
        have := Option.some.inj e
        omega
    have hk5 : Kept (fun k => k = g) w4 (w4.setCell ⟨g, 0, none⟩ (.slice x4 (l.length + 1) c4)) := Kept.setCell (S := fun k => k = g) (Kept.refl _ w4) (.inl rfl) _
    refine ⟨rfl, .slice x4 (l.length + 1) c4, ⟨?_, ?_, hapart, put_asc HA2.out.asc p⟩, ?_, ?_⟩
    · have hb := (HA3.out.blk.kept h2 (fun e => HA3.out.apart e)).set 0 (.slice x4 (l.length + 1) c4)
      simpa using hb
    · rw [HL.out, HP.out]
      exact ownsRow_kept h1 hk5 (fun k hk e => hapart (e ▸ hk))
    · exact ((Kept.of_below HB3.out (Nat.le_refl _)).trans h2 (fun j hj _ => .inr hj)).setCell (.inl (.inl rfl)) _
    · rintro k (rfl | hk)
      · exact .inl (.inl rfl)
      · rcases h3 with h3 | h3
        · exact .inl (.inr (h3 ▸ hk))
        · rw [h3] at hk
          have := Option.some.inj hk
          exact .inr (by omega)

/-- An index that was made behind B. -/
def Own (w : World) (B g : Nat) (l : List Pos) : Prop := ∃ v, At w g v l ∧ ∀ k, own g v k → B ≤ k
theorem Own.below {w w' : World} {B C g : Nat} {l : List Pos} (h : Own w B g l) (hb : Below C w w') (hB : w.heap.size ≤ C) : Own w' B g l := by
  obtain ⟨v, h1, h2⟩ := h
  exact ⟨v, h1.below hb hB, h2⟩
theorem Own.ix {w : World} {B g : Nat} {l : List Pos} (h : Own w B g l) : ∃ v, Ix w (.pointer (some ⟨g, 0, none⟩)) v l := by
  obtain ⟨v, h1, _⟩ := h
  exact ⟨v, .at g v l h1⟩
theorem Own.mono {w : World} {B C g : Nat} {l : List Pos} (h : Own w B g l) (hC : C ≤ B) : Own w C g l := by
  obtain ⟨v, h1, h2⟩ := h
  exact ⟨v, h1, fun k hk => Nat.le_trans hC (h2 k hk)⟩
theorem Own.asc {w : World} {B g : Nat} {l : List Pos} (h : Own w B g l) : Asc l := by
  obtain ⟨v, h1, _⟩ := h
  exact h1.asc
theorem put_own (B g : Nat) (l : List Pos) (p : Pos) (w : World) (h : Own w B g l) (hl : l.length < 4096) (hB : B ≤ w.heap.size) :
    Calls Try.prog 9 #[.pointer (some ⟨g, 0, none⟩), pval p] w fun e w' => e = .returned .nilIface ∧ Own w' B g (put l p) ∧ Below B w w' := by
  obtain ⟨v, h1, h2⟩ := h
  refine (put_any g v l p w h1 hl).mono ?_
  rintro e w' ⟨he, v', k1, k2, k3⟩
  refine ⟨he, ⟨v', k1, fun k hk => ?_⟩, k2.below hB (fun k hk hs => ?_)⟩
  · rcases k3 k hk with h | h
    · exact h2 k h
    · omega
  · have := h2 k hs
    omega

/-- New of so many positions. -/
theorem new_any (v : Value) (ps : List Pos) (w : World) (hv : IsP w v ps) (hl : ps.length ≤ 4000) :
    Calls Try.prog 8 #[v] w fun e w' =>
      ∃ g, e = .returned (.pointer (some ⟨g, 0, none⟩)) ∧ Own w' w.heap.size g (puts [] ps) ∧ Below w.heap.size w w' := by
  obtain ⟨N, hN⟩ : ∃ N, ps.length = N := ⟨_, rfl⟩
  have hlen := fun W => len_P (P := Try.prog) hv hN 39 3 _ Try.underlying39 W
  have HV := Lib.hid hv
  rw [hN] at hl
  have HN := Lib.hid hN
  clear hv hN
  go_enter Try.func8, Try.ntmps8
  go_wp2
  go_loopw [10] (fun c wr => ∃ i : Nat, i ≤ N ∧ c = .int .i64 i ∧ Hid (Below w.heap.size w wr) ∧ Hid (Own wr w.heap.size w.heap.size (puts [] (ps.take i)))) (fun c _ => N - (intOf c).toNat)
  case atStart => exact ⟨0, Nat.zero_le _, rfl, Lib.hid ((Below.refl _ _).alloc (Nat.le_refl _) _), Lib.hid ⟨_, ⟨Blk.new w _ _, World.ownsRow_nil _ _ _ _, by simp [Value.ownBlock], Asc.nil⟩, by
    rintro k (rfl | e)
    · exact Nat.le_refl _
    · simp [Value.ownBlock] at e⟩⟩
  case round =>
    obtain ⟨i, hiN, rfl, HB, HO⟩ := hrel
    by_cases hlt : i < N
    · obtain ⟨p, hp⟩ : ∃ p, pat ps i = p := ⟨_, rfl⟩
      obtain ⟨b, o, hidx, c0, c1, c2, c3, c4⟩ := indexAt_P (HV.out.mono HB.out (Nat.le_refl _)) 39 32 Try.underlying39 Try.sizePos i (by rw [HN.out]; omega)
      rw [hp] at c0 c1 c2 c3 c4
      have HT := Lib.hid (show puts [] (ps.take (i + 1)) = put (puts [] (ps.take i)) p from by rw [take_snoc (by rw [HN.out]; exact hlt), puts_snoc, hp])
      have hsz := HB.out.size
      have HL := Lib.hid (show (puts [] (ps.take i)).length < 4096 from by
        have := length_puts [] (ps.take i)
        rw [List.length_take] at this
        simp at this
        omega)
      have HC := Lib.hid (show PCells wr b o p from ⟨c0, c1, c2, c3, c4⟩)
      clear hp
      go_wp2_with fail
      refine (put_own w.heap.size w.heap.size _ p _ (HO.out.below ((Below.refl _ _).alloc (Nat.le_refl _) _) (Nat.le_refl _)) HL.out (by simp; omega)).mono ?_
      rintro e w2 ⟨rfl, h1, h2⟩
      rw [← HT.out] at h1
      have H1 := Lib.hid h1
      have H2 := Lib.hid ((HB.out.alloc hsz _).trans h2)
      clear h1 h2 c0 c1 c2 c3 c4 hidx
      go_wp2
      go_roundw
      case rel => exact ⟨i + 1, by omega, by go_num, H2, H1⟩
      case measure => simp [intOf]; omega
    · obtain rfl : i = N := by omega
      have h9 := HO.out
      rw [List.take_of_length_le (by rw [HN.out]; omega)] at h9
      have H9 := Lib.hid h9
      clear h9
      go_wp2
      go_ret
      exact ⟨_, rfl, H9.out, HB.out⟩

end Go.Proofs.Ytbloedaidbfehaa
