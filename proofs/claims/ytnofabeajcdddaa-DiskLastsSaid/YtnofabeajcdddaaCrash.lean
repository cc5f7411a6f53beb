/- Package disk: Crash, by contract. -/
import Derived.Test.YtnofabeajcdddaaCr
namespace Go.Proofs.Ytnofabeajcdddaa
open Go.RowKit Go.Cor

theorem dee_facts {w : World} {fb : Nat → Nat} {v : Value} {l : List Dd} {q i : Nat} (hv : IsX w 3 v q ((row (ddc fb) l).take (q * 3))) (hi : i < q) {x : Dd} (hx : l[i]? = some x) :
    ∃ b o, (∀ W, (Instr.indexAt 80 v (.int .i64 (i : Int))).run Try.prog W = .ok (.pointer (some ⟨b, o, none⟩)) W) ∧ w.cell? ⟨b, o, none⟩ = some (.string x.src) ∧ w.cell? ⟨b, o + 1, none⟩ = some (.string x.dst) ∧ w.cell? ⟨b, o + 2, none⟩ = some (.pointer (dptr fb x)) := by
  obtain ⟨b, o, h1, h2, h3⟩ := indexAt_X hv 80 _ Try.underlying80 Try.sizeDeed i hi
  have hc : ∀ j, j < 3 → w.cell? ⟨b, o + j, none⟩ = (ddc fb x)[j]? := fun j hj => by
    rw [h3 j hj, List.getElem?_take, if_pos (by omega), row_get (ddc_len fb) hx j hj]
  exact ⟨b, o, h1, hc 0 (by decide), hc 1 (by decide), hc 2 (by decide)⟩
def CrG (w : World) (L : Lay) (d : Dsk) (pb : Array Value) (t : Tbl) (v : Value) (fs : List Fil) (wx : World) : Prop := ∃ L', CrF w L d pb t v fs wx L'
theorem fall_ne {w wr : World} {L L' : Lay} {d : Dsk} {pb : Array Value} {t : Tbl} {v : Value} {fs : List Fil} {k : Nat} (h : CrF w L d pb t v fs wr L') (hk : k < fs.length) : ¬ (L'.fv k).ownBlock = some (L.fb k) := fun e => by
  have h1 := h.at'.rest.apt (.byt k) (.box k) (L.fb k) ((own_byt hk).trans e) ((own_box hk).trans (by rw [h.fb]))
  cases h1
theorem fall_keep {w wr wf : World} {L L' : Lay} {d : Dsk} {t : Tbl} {v pv : Value} {fs : List Fil} {k x : Nat} {f : Fil} {a0 a1 : Value} {names : Int} {T : TypeId} (h : CrF w L d #[.int .i64 names, pv] t v fs wr L') (hk : k < fs.length) (hx : Blk wr x #[a0, a1] T) (hf : Fell wr (L.fb k) (k : Int) (L'.fv k) f wf) (hxn : ∀ t b, L'.own fs.length t = some b → b ≠ x) (hpn : ∀ t b, L'.own fs.length t = some b → b ≠ w.heap.size) :
    wf.cell? ⟨x, 1, none⟩ = some a1 ∧ wf.cell? ⟨w.heap.size, 0, none⟩ = some (.int .i64 names) ∧ wf.cell? ⟨w.heap.size, 1, none⟩ = some pv ∧ wf.cell? ⟨L.fb k, 0, none⟩ = some (.int .i64 (k : Int)) := by
  obtain ⟨v', hb, ho, hK, hv⟩ := hf
  have hn : ∀ j, (some (L.fb k) = some j ∨ (L'.fv k).ownBlock = some j) → ∃ t, L'.own fs.length t = some j := fun j hj => by
    rcases hj with hj | hj
    · exact ⟨.box k, (own_box hk).trans (by rw [h.fb]; exact hj)⟩
    · exact ⟨.byt k, (own_byt hk).trans hj⟩
  have hx' := hx.kept hK (fun hj => by obtain ⟨t, ht⟩ := hn _ hj; exact hxn t _ ht rfl)
  have hp' := h.pic.kept hK (fun hj => by obtain ⟨t, ht⟩ := hn _ hj; exact hpn t _ ht rfl)
  exact ⟨hx'.cell 1 rfl, hp'.cell 0 rfl, hp'.cell 1 rfl, hb.cell 0 rfl⟩
theorem below_undrew {w w' : World} (h : Below w.drew.heap.size w.drew w') : Below w.heap.size w w' := ⟨h.os, h.tape, h.output, h.size, h.block⟩
theorem four_keep {wx wy : World} {a b c d : Addr} {va vb vc vd : Value} (h : wx.cell? a = some va ∧ wx.cell? b = some vb ∧ wx.cell? c = some vc ∧ wx.cell? d = some vd) (hb : Below wx.heap.size wx wy) : wy.cell? a = some va ∧ wy.cell? b = some vb ∧ wy.cell? c = some vc ∧ wy.cell? d = some vd :=
  ⟨(hb.cell (cell_lt h.1)).trans h.1, (hb.cell (cell_lt h.2.1)).trans h.2.1, (hb.cell (cell_lt h.2.2.1)).trans h.2.2.1, (hb.cell (cell_lt h.2.2.2)).trans h.2.2.2⟩
theorem fall_in {w wo : World} {L L' : Lay} {d : Dsk} {t : Tbl} {v pv : Value} {fs : List Fil} {k x : Nat} {a0 a1 : Value} {names : Int} {T : TypeId} (h : CrF w L d #[.int .i64 names, pv] t v fs wo L') (h0 : ∀ t b, L.own d.files.length t = some b → b < w.heap.size) (hfl : fs.length = d.files.length) (hk : k < fs.length) (hm : (fat fs k).lasts ≤ (fat fs k).b.length ∧ (fat fs k).b.length ≤ 16777216) (hx : Blk wo x #[a0, a1] T) (hxn : ∀ t b, L'.own fs.length t = some b → b ≠ x) (hpn : ∀ t b, L'.own fs.length t = some b → b ≠ w.heap.size) (p : Pck) :
    Calls Try.prog 48 #[.pointer (some ⟨L.fb k, 0, none⟩), pckV p] wo fun e wf => e = .returned (.tuple #[]) ∧ (wf.cell? ⟨x, 1, none⟩ = some a1 ∧ wf.cell? ⟨w.heap.size, 0, none⟩ = some (.int .i64 names) ∧ wf.cell? ⟨w.heap.size, 1, none⟩ = some pv ∧ wf.cell? ⟨L.fb k, 0, none⟩ = some (.int .i64 (k : Int))) ∧ CrG w L d #[.int .i64 names, pv] t v (fs.set k (fallF (fat fs k) p)) wf := by
  have hb : Blk wo (L.fb k) #[.int .i64 (k : Int), L'.fv k, .int .i64 ((fat fs k).lasts : Int)] 93 := by
    have := h.at'.rest.box k hk
    rw [h.fb] at this
    exact this
  refine (fall_any wo (L.fb k) (k : Int) (L'.fv k) (fat fs k) p hb (h.at'.rest.byt k hk) (fall_ne h hk) hm.1 hm.2).mono ?_
  rintro e wf ⟨rfl, hf⟩
  exact ⟨rfl, fall_keep h hk hx hf hxn hpn, _, CrF.step h h0 hfl hk (by rw [h.fb]; exact hf)⟩
def CrE (w : World) (L : Lay) (d : Dsk) (pb : Array Value) (t : Tbl) (wx : World) : Prop := ∃ v, CrS w L d pb t wx v

set_option maxRecDepth 100000 in
set_option maxHeartbeats 8000000 in
theorem crash_any (w : World) (L : Lay) (d : Dsk) (k : Nat) (names : Int) (pv : Value) (ps : List Pck) (h : Ready w L d k) (hpv : IsX w 2 pv ps.length (row pck ps)) (hps : ps.length ≤ 100000) (hpn : ∀ b, liesX pv ps.length b → ¬ ∃ t, L.own d.files.length t = some b) :
    Calls Try.prog 25 #[.pointer (some ⟨L.p, 0, none⟩), .agg #[.int .i64 names, pv]] w fun e w' => e = .returned .nilIface ∧ Fin' w L d w' (d.crash names ps) := by
  have H := Lib.hid h
  have hpw := h.at'.blk.lt
  have hDl := h.dee_len
  obtain ⟨D, hD⟩ : ∃ D, d.deeds.length = D := ⟨_, rfl⟩
  obtain ⟨q, hq⟩ : ∃ q, clampN names D = q := ⟨_, rfl⟩
  have hqD : q ≤ D := by rw [← hq]; exact Nat.min_le_right _ _
  obtain ⟨xl, cl, hlas, _, _⟩ := ownsRow_slice h.at'.rest.las
  obtain ⟨_, _, c2, c3, _, _, _⟩ := box_facts h.at'.blk
  have f2 := h.at'.blk.free 2
  rw [hlas] at c3
  have hS1 := CrS.start h.at' #[.int .i64 names, pv]
  rw [hlas] at hS1
  have hlenD := fun W => len_X (P := Try.prog) (IsX.own h.at'.rest.dee) 80 3 _ Try.underlying80 W
  obtain ⟨xd, cd, hdee, hd1, hd2⟩ := ownsRow_slice h.at'.rest.dee
  rw [hD] at hlenD hdee hd1 hDl
  have hsl := slice_h_X (P := Try.prog) 3 xd D cd 80 _ Try.underlying80 Try.sizeDeed q (by omega)
  have hXV : ∀ wr, wr.ownsRow 0 100 3 L.dee d.deeds.length (row (ddc L.fb) d.deeds) → IsX wr 3 (.slice xd q cd) q ((row (ddc L.fb) d.deeds).take (q * 3)) := fun wr ho => by
    have h := IsX.own ho
    rw [hD, hdee] at h
    exact h.take hqD
  have hlenV := fun W => len_X (P := Try.prog) (hXV w h.at'.rest.dee) 80 3 _ Try.underlying80 W
  rw [← hdee] at hsl
  generalize Value.slice xd q cd = V at hsl hXV hlenV
  have HXV := Lib.hid hXV
  have HD := Lib.hid hD
  have HWI := Lib.hid (within_any names D)
  have HQ := Lib.hid hq
  have HS1 := Lib.hid hS1
  have HLT := Lib.hid (fun b (hb : L.las.ownBlock = some b) => (h.at'.rest.las.lt b hb).2)
  have HPV := Lib.hid hpv
  have HPN0 := Lib.hid hpn
  have hTl : d.las.length + q ≤ 100000 := by have := h.ok.lenN; have := h.small; omega
  obtain ⟨TT, hTT⟩ : ∃ TT, (d.deeds.take q).foldl turnT d.las = TT := ⟨_, rfl⟩
  have HTT := Lib.hid hTT
  have hcrash : d.crash names ps = { d with now := TT, las := TT, deeds := [], files := fallAll ps d.files TT, armed := none } := by
    unfold Dsk.crash
    rw [hD, hq, hTT]
  rw [hcrash]
  clear h hpv hpn hD hq hlas hS1 hdee hXV hTT hcrash
  go_enter Try.func25, Try.ntmps25
  go_upto_region 4 with fail
  generalize hw1 : (w.setCell ⟨L.p, 2, none⟩ (.slice xl d.las.length cl)).alloc (.cells #[.int .i64 names, pv] 64) = w1 at HS1 ⊢
  clear hw1 c2 c3 f2
  have k4 := HS1.out.blk.cell 4 rfl
  have p0 := HS1.out.pic.cell 0 (v := .int .i64 names) rfl
  have S4 : w1.drew.cell? ⟨L.p, 4, none⟩ = some L.dee ∧ w1.drew.cell? ⟨w.heap.size, 0, none⟩ = some (.int .i64 names) := ⟨k4, p0⟩
  go_cut [31, 32, 33] from 19 to 33 (fun a b c wx => a = V ∧ b = .int .i64 (q : Int) ∧ c = .int .i64 0 ∧ Hid (CrE w L d #[.int .i64 names, pv] d.las wx))
  case first =>
    go_region_held3 (fun wx => wx.cell? ⟨L.p, 4, none⟩ = some L.dee ∧ wx.cell? ⟨w.heap.size, 0, none⟩ = some (.int .i64 names)) (exact S4) (first | (go_at_call 46; refine (HWI.out _).mono ?_; rintro e wa ⟨rfl, rfl⟩; rw [HQ.out]))
    go_wp2_with fail
    go_meet
    exact ⟨rfl, rfl, rfl, Lib.hid ⟨_, HS1.out.below ((Below.refl _ w1).drew)⟩⟩
  case rest =>
    obtain ⟨rfl, rfl, rfl, hcs⟩ := hcut
    obtain ⟨w2, hw2⟩ : ∃ w2, w2 = wc := ⟨_, rfl⟩
    subst hw2
    clear S4 k4 p0 HS1
    go_wp2_with fail
    go_loopw [33] (fun c wr => ∃ i : Nat, i ≤ q ∧ c = .int .i64 i ∧ Hid (CrE w L d #[.int .i64 names, pv] ((d.deeds.take i).foldl turnT d.las) wr)) (fun c _ => q - (intOf c).toNat)
    case atStart => exact ⟨0, Nat.zero_le _, rfl, hcs⟩
    case round =>
      obtain ⟨i, hiq, rfl, hCr⟩ := hrel
      obtain ⟨v, hC⟩ := hCr.out
      have HC := Lib.hid hC
      clear hCr hC
      by_cases hlt : i < q
      · obtain ⟨x, hx⟩ : ∃ x, d.deeds[i]? = some x := ⟨_, List.getElem?_eq_getElem (by rw [HD.out]; omega)⟩
        obtain ⟨b, o, hidx, x0, x1, x2⟩ := dee_facts (HXV.out wr HC.out.rest.dee) hlt hx
        have hbl := cell_lt x0
        have hbl' : b < wr.heap.size := hbl
        obtain ⟨t, ht⟩ : ∃ t, (d.deeds.take i).foldl turnT d.las = t := ⟨_, rfl⟩
        have hts : Sorted t := by rw [← ht]; exact foldl_sorted H.out.ok.lasS _
        have htl : t.length ≤ 100000 := by
          have := foldl_len d.las (d.deeds.take i)
          rw [ht, List.length_take] at this
          omega
        have HSN := Lib.hid (show (d.deeds.take (i + 1)).foldl turnT d.las = turnT t x from by rw [foldl_snoc _ _ _ hx, ht])
        rw [ht] at HC
        have hb0 : Below wr.heap.size wr (wr.alloc (.cells #[.string x.src, .string x.dst, .pointer (dptr L.fb x)] 100)) := (Below.refl _ wr).alloc (Nat.le_refl _) _
        have HSA := Lib.hid (HC.out.below hb0)
        have HXA := Lib.hid (Blk.new wr #[.string x.src, .string x.dst, .pointer (dptr L.fb x)] 100)
        have HXN := Lib.hid (show ¬ v.ownBlock = some wr.heap.size from fun e => by have := (HC.out.rest.now.lt _ e).2; omega)
        have HPN := Lib.hid (show ¬ v.ownBlock = some L.p from fun e => by cases HC.out.rest.apt .now .dsk L.p e rfl)
        have hpr : L.p < wr.heap.size := HC.out.blk.lt
        have HBH := Lib.hid (behind_any L.fb v t x (dptr L.fb x) (wr.alloc (.cells #[.string x.src, .string x.dst, .pointer (dptr L.fb x)] 100)).drew HSA.out.rest.now hts (by omega) (fun hne => by unfold dptr; rw [if_neg hne]))
        obtain ⟨d0, d1, d2⟩ := BoxD.facts HXA.out
        have k2 := HSA.out.blk.cell 2 rfl
        clear hx hbl ht hb0
        go_upto_region 7 with fail
        refine wp_region_held_drew (S := (fun wx => wx.cell? ⟨wr.heap.size, 0, none⟩ = some (.string x.src) ∧ wx.cell? ⟨wr.heap.size, 1, none⟩ = some (.string x.dst) ∧ wx.cell? ⟨wr.heap.size, 2, none⟩ = some (.pointer (dptr L.fb x)))) (by kernel_rfl) (⟨d0, d1, d2⟩) (fun hHeld => ?_)
        refine wpAnyH_take (i := 0) (v := ?_) rfl (by kernel_rfl) (by kernel_rfl) (by kernel_rfl) (fun _ _ _ h => h) (Or.inl ⟨by rfl, ?_⟩) (by assumption) ?_
        rotate_left 1
        · intro w hSw
          (try dsimp only at hSw)
          go_simp
          all_goals (with_reducible rfl)
        try simp only [Act.put, List.getElem_toArray, List.getElem_cons_zero, List.getElem_cons_succ, List.setIfInBounds_toArray, List.set_cons_zero, List.set_cons_succ]
        refine wpAnyH_take (i := 1) (v := ?_) rfl (by kernel_rfl) (by kernel_rfl) (by kernel_rfl) (fun _ _ _ h => h) (Or.inl ⟨by rfl, ?_⟩) (by assumption) ?_
        rotate_left 1
        · intro w hSw
          (try dsimp only at hSw)
          go_simp
          all_goals (with_reducible rfl)
        try simp only [Act.put, List.getElem_toArray, List.getElem_cons_zero, List.getElem_cons_succ, List.setIfInBounds_toArray, List.set_cons_zero, List.set_cons_succ]
        refine wpAnyH_take (i := 2) (v := ?_) rfl (by kernel_rfl) (by kernel_rfl) (by kernel_rfl) (fun _ _ _ h => h) (Or.inl ⟨by rfl, ?_⟩) (by assumption) ?_
        rotate_left 1
        · intro w hSw
          (try dsimp only at hSw)
          go_simp
          all_goals (with_reducible rfl)
        try simp only [Act.put, List.getElem_toArray, List.getElem_cons_zero, List.getElem_cons_succ, List.setIfInBounds_toArray, List.set_cons_zero, List.set_cons_succ]
        refine wpAnyH_take (i := 3) (v := ?_) rfl (by kernel_rfl) (by kernel_rfl) (by kernel_rfl) (fun _ _ _ h => h) (Or.inl ⟨by rfl, ?_⟩) (by assumption) ?_
        rotate_left 1
        · intro w hSw
          (try dsimp only at hSw)
          go_simp
          all_goals (with_reducible rfl)
        try simp only [Act.put, List.getElem_toArray, List.getElem_cons_zero, List.getElem_cons_succ, List.setIfInBounds_toArray, List.set_cons_zero, List.set_cons_succ]
        refine wpAnyH_take (i := 5) (v := ?_) rfl (by kernel_rfl) (by kernel_rfl) (by kernel_rfl) (fun _ _ _ h => h) (Or.inl ⟨by rfl, ?_⟩) (by assumption) ?_
        rotate_left 1
        · intro w hSw
          (try dsimp only at hSw)
          go_simp
          all_goals (with_reducible rfl)
        try simp only [Act.put, List.getElem_toArray, List.getElem_cons_zero, List.getElem_cons_succ, List.setIfInBounds_toArray, List.set_cons_zero, List.set_cons_succ]
        refine wpAnyH_ready (rs := [4]) (by kernel_rfl) (by simp) ?_
        refine AllReadyH.cons rfl (fun K hK => ?_) AllReadyH.nil
        go_simp
        refine hK.out _ _ (⟨d0, d1, d2⟩) (fun hHeld => ?_)
        clear hK K
        try simp only [Act.put, List.getElem_toArray, List.getElem_cons_zero, List.getElem_cons_succ, List.setIfInBounds_toArray, List.set_cons_zero, List.set_cons_succ]
        refine wpAnyH_ready (rs := [6]) (by kernel_rfl) (by simp) ?_
        refine AllReadyH.cons rfl (fun K hK => ?_) AllReadyH.nil
        go_simp
        go_at_call 47
        refine HBH.out.mono ?_
        rintro e w2 ⟨v2, rfl, hown2, hk2, hv2⟩
        have hk2 := Kept.undrew hk2
        obtain ⟨x2, z2, rfl, hz2a, hz2b⟩ := ownsRow_slice hown2
        have HS2 := Lib.hid (CrS.step HSA.out HLT.out hown2 hk2 hv2)
        have HX2 := Lib.hid (HXA.out.kept (w' := w2) (S := fun k => v.ownBlock = some k) hk2 HXN.out)
        have HP2 := Lib.hid (HSA.out.blk.kept (w' := w2) (S := fun k => v.ownBlock = some k) hk2 HPN.out)
        have g2 := HP2.out.free 2
        have m2 := HP2.out.cell 2 rfl
        clear hown2 hk2 hv2 k2
        go_wp2_with fail
        refine hK.out _ _ (BoxD.facts HX2.out) (fun hHeld => ?_)
        clear hK K
        try simp only [Act.put, List.getElem_toArray, List.getElem_cons_zero, List.getElem_cons_succ, List.setIfInBounds_toArray, List.set_cons_zero, List.set_cons_succ]
        refine wpAnyH_take (i := 7) (v := ?_) rfl (by kernel_rfl) (by kernel_rfl) (by kernel_rfl) (fun _ _ _ h => h) (Or.inl ⟨by rfl, ?_⟩) (by assumption) ?_
        rotate_left 1
        · intro w hSw
          (try dsimp only at hSw)
          go_simp
          all_goals (with_reducible rfl)
        try simp only [Act.put, List.getElem_toArray, List.getElem_cons_zero, List.getElem_cons_succ, List.setIfInBounds_toArray, List.set_cons_zero, List.set_cons_succ]
        refine wpAnyH_take (i := 8) (v := ?_) rfl (by kernel_rfl) (by kernel_rfl) (by kernel_rfl) (fun _ _ _ h => h) (Or.inl ⟨by rfl, ?_⟩) (by assumption) ?_
        rotate_left 1
        · intro w hSw
          (try dsimp only at hSw)
          go_simp
          all_goals (with_reducible rfl)
        try simp only [Act.put, List.getElem_toArray, List.getElem_cons_zero, List.getElem_cons_succ, List.setIfInBounds_toArray, List.set_cons_zero, List.set_cons_succ]
        refine wpAnyH_ready (rs := [9]) (by kernel_rfl) (by simp) ?_
        refine AllReadyH.cons rfl (fun K hK => ?_) AllReadyH.nil
        go_simp
        refine hK.out _ _ (BoxD.facts (HX2.out.other (a := ⟨L.p, 2, none⟩) (by show L.p ≠ _; omega) (.slice x2 (turnT t x).length z2))) (fun hHeld => ?_)
        clear hK K
        try simp only [Act.put, List.getElem_toArray, List.getElem_cons_zero, List.getElem_cons_succ, List.setIfInBounds_toArray, List.set_cons_zero, List.set_cons_succ]
        refine wpAnyH_done (by kernel_rfl) ?_ _
        go_wp2_with fail
        go_roundw
        case rel => exact ⟨i + 1, by omega, by go_num, by rw [HSN.out]; exact Lib.hid ⟨_, HS2.out⟩⟩
        case measure => simp [intOf]; omega
      · obtain rfl : i = q := by omega
        rw [HTT.out] at HC
        have hTs : Sorted TT := by rw [← HTT.out]; exact foldl_sorted H.out.ok.lasS _
        have hTl2 : TT.length ≤ 100000 := by
          have := foldl_len d.las (d.deeds.take i)
          rw [HTT.out, List.length_take] at this
          omega
        have HTF := Lib.hid (show ∀ e ∈ TT, e.2 < d.files.length from fun e he => by
          rw [← HTT.out] at he
          rcases foldl_mem he with h1 | ⟨y, hy, hyd, rfl⟩
          · exact (H.out.ok.lasF e h1).1
          · rcases (H.out.ok.deeF y (List.mem_of_mem_take hy)).1 with h2 | h2
            · exact absurd h2 hyd
            · exact h2.2)
        go_wp2_with fail
        refine (lastNames_any _ L.p _ _ _ _ _ _ v TT L.fb HC.out.blk HC.out.rest.now (by omega)).mono ?_
        rintro e w3 ⟨rfl, v', hb3, ho3, hk3⟩
        have HF := Lib.hid (CrF.start HC.out hpw hb3 ho3 hk3)
        clear hb3 ho3 hk3
        have k2 := HF.out.at'.blk.cell 2 (v := v) rfl
        obtain ⟨N, hN⟩ : ∃ N, TT.length = N := ⟨_, rfl⟩
        have hlenT := fun W => len_X (P := Try.prog) (IsX.own HF.out.at'.rest.now) 79 3 _ Try.underlying79 W
        have hlenT' : ∀ W, (Builtin.len_ #[79] 3 #[v]).run Try.prog W = .ok (.int .i64 (N : Int)) W := fun W => by rw [← hN]; exact hlenT W
        have HN := Lib.hid hN
        rw [hN] at hTl2
        clear hlenT hN
        go_wp2_with fail
        go_loopw [54] (fun c wr => ∃ i : Nat, i ≤ N ∧ c = .int .i64 i ∧ Hid (CrG w L d #[.int .i64 names, pv] TT v (fallAll ps d.files (TT.take i)) wr)) (fun c _ => N - (intOf c).toNat)
        case atStart => exact ⟨0, Nat.zero_le _, rfl, Lib.hid ⟨_, HF.out⟩⟩
        case round =>
          clear k2 HF HC
          obtain ⟨i, hiN, rfl, hCg⟩ := hrel
          obtain ⟨L', hC⟩ := hCg.out
          have HC := Lib.hid hC
          clear hCg hC
          by_cases hlt2 : i < N
          · obtain ⟨e, he⟩ : ∃ e, TT[i]? = some e := ⟨_, List.getElem?_eq_getElem (by rw [HN.out]; omega)⟩
            have hek := HTF.out e (List.mem_of_getElem? he)
            obtain ⟨fs, hfs⟩ : ∃ fs, fallAll ps d.files (TT.take i) = fs := ⟨_, rfl⟩
            have hfl : fs.length = d.files.length := by rw [← hfs]; exact fallAll_len _ _ _
            have hfok : ∀ f ∈ fs, f.lasts ≤ f.b.length ∧ f.b.length ≤ 16777216 := by rw [← hfs]; exact fallAll_ok _ H.out.ok.fil
            have HSN := Lib.hid (show fallAll ps d.files (TT.take (i + 1)) = fs.set e.2 (fallF (fat fs e.2) (pickAt ps e.2)) from by rw [fallAll_snoc _ _ _ _ he, hfs])
            rw [hfs] at HC
            have hek' : e.2 < fs.length := by omega
            have hmem := hfok _ (fat_mem hek')
            have hrow : wr.ownsRow 0 104 2 v TT.length (row (ent L.fb) TT) := by
              have h1 := HC.out.at'.rest.now
              rw [HC.out.fb, HC.out.now] at h1
              exact h1
            obtain ⟨b, o, hidx, hob, x0, x1⟩ := indexAt_T (IsX.own hrow) 79 Try.underlying79 he
            have hbl : b < wr.heap.size := cell_lt x0
            have hb0 : Below wr.heap.size wr (wr.alloc (.cells #[.string e.1, .pointer (some ⟨L.fb e.2, 0, none⟩)] 104)) := (Below.refl _ wr).alloc (Nat.le_refl _) _
            have HCA := Lib.hid (HC.out.below hb0)
            have HXA := Lib.hid (Blk.new wr #[.string e.1, .pointer (some ⟨L.fb e.2, 0, none⟩)] 104)
            have HBX := Lib.hid (show Blk (wr.alloc (.cells #[.string e.1, .pointer (some ⟨L.fb e.2, 0, none⟩)] 104)) (L.fb e.2) #[.int .i64 (e.2 : Int), L'.fv e.2, .int .i64 ((fat fs e.2).lasts : Int)] 93 from by have := HCA.out.at'.rest.box e.2 hek'; rw [HC.out.fb] at this; exact this)
            have S13 : (wr.alloc (.cells #[.string e.1, .pointer (some ⟨L.fb e.2, 0, none⟩)] 104)).drew.cell? ⟨wr.heap.size, 1, none⟩ = some (.pointer (some ⟨L.fb e.2, 0, none⟩)) ∧ (wr.alloc (.cells #[.string e.1, .pointer (some ⟨L.fb e.2, 0, none⟩)] 104)).drew.cell? ⟨w.heap.size, 0, none⟩ = some (.int .i64 names) ∧ (wr.alloc (.cells #[.string e.1, .pointer (some ⟨L.fb e.2, 0, none⟩)] 104)).drew.cell? ⟨w.heap.size, 1, none⟩ = some pv ∧ (wr.alloc (.cells #[.string e.1, .pointer (some ⟨L.fb e.2, 0, none⟩)] 104)).drew.cell? ⟨L.fb e.2, 0, none⟩ = some (.int .i64 (e.2 : Int)) :=
              ⟨HXA.out.cell 1 rfl, HCA.out.pic.cell 0 rfl, HCA.out.pic.cell 1 rfl, HBX.out.cell 0 rfl⟩
            have HPA := Lib.hid (show IsX (wr.alloc (.cells #[.string e.1, .pointer (some ⟨L.fb e.2, 0, none⟩)] 104)).drew 2 pv ps.length (row pck ps) from HPV.out.kept (HCA.out.kept.drew) HPN0.out)
            have HOF := Lib.hid (of_any names pv ps e.2 (wr.alloc (.cells #[.string e.1, .pointer (some ⟨L.fb e.2, 0, none⟩)] 104)).drew HPA.out (by omega))
            have HXW := Lib.hid (show ∀ t b, L'.own fs.length t = some b → b ≠ wr.heap.size from fun t b hb => by have := HC.out.at'.lt t b hb; omega)
            have HPW := Lib.hid (show ∀ t b, L'.own fs.length t = some b → b ≠ w.heap.size from fun t b hb => by
              rcases HC.out.own t b hb with h1 | ⟨_, h1⟩ | h1
              · have := H.out.at'.lt t b h1; omega
              · have := HLT.out b h1; omega
              · omega)
            have HFA := Lib.hid (fun (wo : World) (hbo : Below (wr.alloc (.cells #[.string e.1, .pointer (some ⟨L.fb e.2, 0, none⟩)] 104)).drew.heap.size (wr.alloc (.cells #[.string e.1, .pointer (some ⟨L.fb e.2, 0, none⟩)] 104)).drew wo) => fall_in (HCA.out.below (wx := wo) (below_undrew hbo)) H.out.at'.lt hfl hek' hmem (HXA.out.below (w' := wo) (below_undrew hbo) HXA.out.lt) HXW.out HPW.out (pickAt ps e.2))
            have HEK := Lib.hid hek'
            have HFL := Lib.hid hfl
            have HME := Lib.hid hmem
            clear he hfs hfok hrow hob hb0 hek' hfl hmem
            go_upto_region 13 with fail
            go_region_held3 (fun wx => wx.cell? ⟨wr.heap.size, 1, none⟩ = some (.pointer (some ⟨L.fb e.2, 0, none⟩)) ∧ wx.cell? ⟨w.heap.size, 0, none⟩ = some (.int .i64 names) ∧ wx.cell? ⟨w.heap.size, 1, none⟩ = some pv ∧ wx.cell? ⟨L.fb e.2, 0, none⟩ = some (.int .i64 (e.2 : Int))) (first | exact S13 | exact four_keep S13 hbo | exact hs3) (first | (go_at_call 49; refine HOF.out.mono ?_; rintro e3 wo ⟨rfl, hbo⟩) | (go_at_call 48; refine (HFA.out _ hbo).mono ?_; rintro e3 wf ⟨rfl, hs3, hcf⟩))
            go_wp2_with fail
            go_roundw
            case rel => exact ⟨i + 1, by omega, by go_num, by rw [HSN.out]; exact Lib.hid hcf⟩
            case measure => simp [intOf]; omega
          · obtain rfl : i = N := by omega
            have hall : TT.take i = TT := List.take_of_length_le (by rw [HN.out]; exact Nat.le_refl _)
            rw [hall] at HC
            have HFIN := Lib.hid (HC.out.last H.out.cr (fallAll_len _ _ _))
            have k5 : wr.cell? ⟨L.p, 5, none⟩ = some (.bool d.armed.isSome) := by have := HC.out.at'.blk.cell 5 (v := .bool d.armed.isSome) rfl; rw [HC.out.p] at this; exact this
            have g5 : wr.frozen? ⟨L.p, 5, none⟩ = false := by have := HC.out.at'.blk.free 5; rw [HC.out.p] at this; exact this
            clear hall
            go_wp2
            go_ret
            exact ⟨rfl, HFIN.out⟩

end Go.Proofs.Ytnofabeajcdddaa
