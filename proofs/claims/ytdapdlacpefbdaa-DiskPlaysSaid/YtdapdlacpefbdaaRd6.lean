/- The document's disk: a crash: by contract. -/
import Derived.Test.YtdapdlacpefbdaaRd5
import Derived.Deep.CutRange
import Derived.Deep.CutBlock
namespace Go.Proofs.Ytdapdlacpefbdaa
open Go.RowKit Go.Cor

theorem Try.sizeRPick : (Try.prog.info? 107).map (·.size) = some 2 := by kernel_rfl
abbrev dL (d : Dsk) (t : Tbl) : Dsk := { d with las := t }
abbrev dF (d : Dsk) (t : Tbl) (fs : List Fil) : Dsk := { d with las := t, files := fs }
/-- The first so many deeds, done. -/
def tUp (d : Dsk) (i : Nat) : Tbl := (d.deeds.take i).foldl turnT d.las
theorem tUp_next {d : Dsk} {i : Nat} {x : Dd} (h : d.deeds[i]? = some x) : tUp d (i + 1) = turnT (tUp d i) x := foldl_snoc d.las d.deeds i h
theorem tUp_ok {d : Dsk} {k i : Nat} (ok : d.Ok k) (hk : k ≤ 90000) : (tUp d i).length ≤ 90000 ∧ (∀ e ∈ tUp d i, e.1 ≠ noName ∧ e.2 < d.files.length) := by
  refine ⟨?_, fun e he => ?_⟩
  · have h1 := foldl_len d.las (d.deeds.take i)
    have h2 := ok.lenN
    rw [List.length_take] at h1
    unfold tUp
    omega
  · rcases foldl_mem he with h1 | ⟨y, hy, hyd, rfl⟩
    · have := ok.lasF e h1
      exact ⟨isNm_ne' this.2, this.1⟩
    · rcases (ok.deeF y (List.mem_of_mem_take hy)).1 with h2 | h2
      · exact absurd h2 hyd
      · exact ⟨hyd, h2.2⟩
/-- Six cells. -/
def Six (w : World) (g b : Nat) (u0 u1 c0 c1 c2 c3 : Value) (o : Nat) : Prop := w.cell? ⟨g, 2, none⟩ = some u0 ∧ w.cell? ⟨g, 3, none⟩ = some u1 ∧ w.cell? ⟨b, o, none⟩ = some c0 ∧ w.cell? ⟨b, o + 1, none⟩ = some c1 ∧ w.cell? ⟨b, o + 2, none⟩ = some c2 ∧ w.cell? ⟨b, o + 3, none⟩ = some c3
theorem Six.below {w w' : World} {B g b o : Nat} {u0 u1 c0 c1 c2 c3 : Value} (h : Six w g b u0 u1 c0 c1 c2 c3 o) (hb : Below B w w') (hB : w.heap.size ≤ B) : Six w' g b u0 u1 c0 c1 c2 c3 o := by
  have hg : g < B := Nat.lt_of_lt_of_le (cell_lt h.1) hB
  have hq : b < B := Nat.lt_of_lt_of_le (cell_lt h.2.2.1) hB
  exact ⟨(hb.cell (p := ⟨g, 2, none⟩) hg).trans h.1, (hb.cell (p := ⟨g, 3, none⟩) hg).trans h.2.1, (hb.cell (p := ⟨b, o, none⟩) hq).trans h.2.2.1, (hb.cell (p := ⟨b, o + 1, none⟩) hq).trans h.2.2.2.1, (hb.cell (p := ⟨b, o + 2, none⟩) hq).trans h.2.2.2.2.1, (hb.cell (p := ⟨b, o + 3, none⟩) hq).trans h.2.2.2.2.2⟩
theorem dee_at {w : World} {v : Value} {l : List Dd} (hv : IsX w 4 v l.length (row rdd l)) {i : Nat} {x : Dd} (hx : l[i]? = some x) :
    ∃ b o, (∀ W, (Instr.indexAt 32 v (.int .i64 (i : Int))).run Try.prog W = .ok (.pointer (some ⟨b, o, none⟩)) W) ∧ w.cell? ⟨b, o, none⟩ = some (.int .i64 (kOf x)) ∧ w.cell? ⟨b, o + 1, none⟩ = some (.string x.src) ∧ w.cell? ⟨b, o + 2, none⟩ = some (.string x.dst) ∧ w.cell? ⟨b, o + 3, none⟩ = some (.int .i64 (x.file : Int)) := by
  obtain ⟨b, o, h1, _, h3⟩ := indexAt_X hv 32 _ Try.underlying32 Try.sizeRDeed i (List.getElem?_eq_some_iff.1 hx).1
  have hc : ∀ j, j < 4 → w.cell? ⟨b, o + j, none⟩ = (rdd x)[j]? := fun j hj => by rw [h3 j hj, row_get rdd_len hx j hj]
  exact ⟨b, o, h1, hc 0 (by decide), hc 1 (by decide), hc 2 (by decide), hc 3 (by decide)⟩

set_option maxRecDepth 100000 in
set_option maxHeartbeats 8000000 in
theorem rcrash_any (w : World) (g : Nat) (L : RL) (R : Nat → Prop) (d : Dsk) (kk : Nat) (pn : Int) (pv : Value) (ps : List Pck) (h : RAt w g L R d) (ok : d.Ok kk) (hk : kk ≤ 90000) (hv : IsX w 2 pv ps.length (row pck ps)) (hps : ps.length ≤ 100) (hpv : ∀ b, liesX pv ps.length b → ¬ (b = g ∨ L.fil.ownBlock = some b)) :
    Calls Try.prog 28 #[.pointer (some ⟨g, 0, none⟩), .agg #[.int .i64 pn, pv]] w fun e w' => e = .returned (.tuple #[]) ∧ Rs w g L R (d.crash pn ps) w' := by
  obtain ⟨w0, hw0⟩ : ∃ w0, w0 = w.alloc (.cells #[.int .i64 pn, pv] 42) := ⟨_, rfl⟩
  have hb0 : Below w.heap.size w w0 := by rw [hw0]; exact bel_alloc w _
  have hs0 : w0.heap.size = w.heap.size + 1 := by rw [hw0]; simp
  have hQ : Blk w0 w.heap.size #[.int .i64 pn, pv] 42 := by rw [hw0]; exact Blk.new w _ _
  have hgl := h.box.lt
  have hfl : ∀ b, L.fil.ownBlock = some b → b < w.heap.size := fun b hb => (h.rest.fil.lt b hb).2
  obtain ⟨N1, hN1⟩ : ∃ n, d.deeds.length = n := ⟨_, rfl⟩
  obtain ⟨q, hq⟩ : ∃ q, clampN pn N1 = q := ⟨_, rfl⟩
  obtain ⟨M, hM⟩ : ∃ n, ps.length = n := ⟨_, rfl⟩
  have hN1k : N1 ≤ 90000 := by rw [← hN1]; have := ok.lenN; omega
  have hqe : q = min pn.toNat N1 := by rw [← hq]; rfl
  have hlp := fun W => len_X (P := Try.prog) hv 40 3 _ Try.underlying40 W
  rw [hM] at hlp hps
  have HQE := Lib.hid hqe
  have hcr : d.crash pn ps = { d with now := tUp d q, las := tUp d q, deeds := [], files := fallAll ps d.files (tUp d q), armed := none } := by
    unfold Dsk.crash tUp
    rw [hN1, hq]
  rw [hcr]
  have HRS := Lib.hid (show Rs w0 g L R (dL d (tUp d 0)) w0 from Rs.self (h.below hb0) (Below.refl _ _))
  have HQ0 := Lib.hid hQ
  have HB0 := Lib.hid hb0
  have HS0 := Lib.hid hs0
  have HV := Lib.hid (hv.mono hb0 (Nat.le_refl _))
  have HPV := Lib.hid hpv
  have HFL := Lib.hid hfl
  have HN1 := Lib.hid hN1
  have HM := Lib.hid hM
  have HO := Lib.hid ok
  obtain ⟨T, hT⟩ : ∃ T, tUp d q = T := ⟨_, rfl⟩
  rw [hT]
  have HTQ := Lib.hid hT
  have hTl := (tUp_ok (i := q) ok hk)
  rw [hT] at hTl
  obtain ⟨NT, hNT⟩ : ∃ n, T.length = n := ⟨_, rfl⟩
  rw [hNT] at hTl
  have hTk := hTl.1
  have HTE := Lib.hid hTl.2
  have HNT := Lib.hid hNT
  obtain ⟨ib, hib, hib0, hib1, hib2⟩ := info_parts Try.infoU8
  have HI := Lib.hid hib
  have HZ0 := Lib.hid hib0
  have HZ1 := Lib.hid hib1
  have HZ2 := Lib.hid hib2
  clear h hb0 hs0 hQ hv hpv hfl hN1 hq hM ok hqe hcr hT hTl hNT hib hib0 hib1 hib2
  go_enter Try.func28, Try.ntmps28
  go_upto_block 0 with fail
  rw [← hw0]
  clear hw0
  go_cut [] from 4 to 39 (fun wx => Hid (Rs w0 g L R (dL d T) wx))
  case first =>
    go_wp2_with fail
    go_loopw [4] (fun x wr => ∃ i : Nat, i ≤ q ∧ x = .int .i64 i ∧ Hid (Rs w0 g L R (dL d (tUp d i)) wr)) (fun x _ => q - (intOf x).toNat)
    case atStart => exact ⟨0, Nat.zero_le _, rfl, HRS⟩
    case round =>
      obtain ⟨i, hiq, rfl, hRs⟩ := hrel
      obtain ⟨L1, R1, hA, hK, hR, hF⟩ := hRs.out
      have hQr := HQ0.out.kept hK (fun e => e.elim (fun e => by omega) (fun e => by have := HFL.out _ e; omega))
      have p0 := hQr.cell 0 (v := .int .i64 pn) rfl
      obtain ⟨_, _, c2, c3, _, _⟩ := hA.facts
      have hld := fun W => len_X (P := Try.prog) hA.rest.dee 32 3 _ Try.underlying32 W
      have hld2 : ∀ W, (Builtin.len_ #[32] 3 #[L1.dee]).run Try.prog W = .ok (.int .i64 (N1 : Int)) W := fun W => by rw [hld W]; show Result.ok (Value.int .i64 ((d.deeds.length : Nat) : Int)) W = _; rw [HN1.out]
      clear hld
      by_cases hlt : i < q
      · obtain ⟨x, hx⟩ : ∃ x, d.deeds[i]? = some x := ⟨_, List.getElem?_eq_getElem (by rw [HN1.out]; have := HQE.out; omega)⟩
        obtain ⟨b, o, hidx, d0, d1, d2, d3⟩ := dee_at (l := d.deeds) hA.rest.dee hx
        have hi1 : (i : Int) < (N1 : Int) := by have := HQE.out; omega
        have hi2 : (i : Int) < pn := by have := HQE.out; omega
        have hok := tUp_ok (i := i) HO.out hk
        have HTN := Lib.hid (tUp_next hx)
        have HTU := Lib.hid (fun W (hW : IsN W L1.las (tUp d i)) => rturn_any L1.las (tUp d i) x W hW (by omega) ((HO.out.deeF x (List.mem_of_getElem? hx)).2.2) (fun e he => (hok.2 e he).1))
        have S0 : Six wr.drew g b L1.las L1.dee (.int .i64 (kOf x)) (.string x.src) (.string x.dst) (.int .i64 (x.file : Int)) o := ⟨c2, c3, d0, d1, d2, d3⟩
        have HA := Lib.hid (hA.below (Below.refl wr.heap.size wr).drew)
        have HK := Lib.hid hK
        have HR := Lib.hid hR
        have HF := Lib.hid hF
        have hgr := hA.box.lt
        clear hx hok hA hK hR hF hQr d0 d1 d2 d3
        go_upto_region 4 with fail
        refine AnyE.start (S := (fun wx => wx.cell? ⟨g, 2, none⟩ = some L1.las ∧ wx.cell? ⟨g, 3, none⟩ = some L1.dee ∧ wx.cell? ⟨b, o, none⟩ = some (.int .i64 (kOf x)) ∧ wx.cell? ⟨b, o + 1, none⟩ = some (.string x.src) ∧ wx.cell? ⟨b, o + 2, none⟩ = some (.string x.dst) ∧ wx.cell? ⟨b, o + 3, none⟩ = some (.int .i64 (x.file : Int)))) 15 (by kernel_rfl) (S0) (fun hHeld => ?_)
        refine AnyE.take (i := 0) (v := ?_) rfl (by kernel_rfl) (by kernel_rfl) (by kernel_rfl) (by kernel_rfl) (fun _ _ _ h => h) (Or.inl ⟨by rfl, ?_⟩) (by assumption) ?_
        rotate_left 1
        · intro w hSw
          (try dsimp only at hSw)
          go_simp
          all_goals (with_reducible rfl)
        try simp only [Act.put, List.getElem_toArray, List.getElem_cons_zero, List.getElem_cons_succ, List.setIfInBounds_toArray, List.set_cons_zero, List.set_cons_succ]
        refine AnyE.take (i := 1) (v := ?_) rfl (by kernel_rfl) (by kernel_rfl) (by kernel_rfl) (by kernel_rfl) (fun _ _ _ h => h) (Or.inl ⟨by rfl, ?_⟩) (by assumption) ?_
        rotate_left 1
        · intro w hSw
          (try dsimp only at hSw)
          go_simp
          all_goals (with_reducible rfl)
        try simp only [Act.put, List.getElem_toArray, List.getElem_cons_zero, List.getElem_cons_succ, List.setIfInBounds_toArray, List.set_cons_zero, List.set_cons_succ]
        refine AnyE.take (i := 2) (v := ?_) rfl (by kernel_rfl) (by kernel_rfl) (by kernel_rfl) (by kernel_rfl) (fun _ _ _ h => h) (Or.inl ⟨by rfl, ?_⟩) (by assumption) ?_
        rotate_left 1
        · intro w hSw
          (try dsimp only at hSw)
          go_simp
          all_goals (with_reducible rfl)
        try simp only [Act.put, List.getElem_toArray, List.getElem_cons_zero, List.getElem_cons_succ, List.setIfInBounds_toArray, List.set_cons_zero, List.set_cons_succ]
        refine AnyE.take (i := 3) (v := ?_) rfl (by kernel_rfl) (by kernel_rfl) (by kernel_rfl) (by kernel_rfl) (fun _ _ _ h => h) (Or.inl ⟨by rfl, ?_⟩) (by assumption) ?_
        rotate_left 1
        · intro w hSw
          (try dsimp only at hSw)
          go_simp
          all_goals (with_reducible rfl)
        try simp only [Act.put, List.getElem_toArray, List.getElem_cons_zero, List.getElem_cons_succ, List.setIfInBounds_toArray, List.set_cons_zero, List.set_cons_succ]
        refine AnyE.take (i := 4) (v := ?_) rfl (by kernel_rfl) (by kernel_rfl) (by kernel_rfl) (by kernel_rfl) (fun _ _ _ h => h) (Or.inl ⟨by rfl, ?_⟩) (by assumption) ?_
        rotate_left 1
        · intro w hSw
          (try dsimp only at hSw)
          go_simp
          all_goals (with_reducible rfl)
        try simp only [Act.put, List.getElem_toArray, List.getElem_cons_zero, List.getElem_cons_succ, List.setIfInBounds_toArray, List.set_cons_zero, List.set_cons_succ]
        refine AnyE.take (i := 5) (v := ?_) rfl (by kernel_rfl) (by kernel_rfl) (by kernel_rfl) (by kernel_rfl) (fun _ _ _ h => h) (Or.inl ⟨by rfl, ?_⟩) (by assumption) ?_
        rotate_left 1
        · intro w hSw
          (try dsimp only at hSw)
          go_simp
          all_goals (with_reducible rfl)
        try simp only [Act.put, List.getElem_toArray, List.getElem_cons_zero, List.getElem_cons_succ, List.setIfInBounds_toArray, List.set_cons_zero, List.set_cons_succ]
        refine AnyE.take (i := 6) (v := ?_) rfl (by kernel_rfl) (by kernel_rfl) (by kernel_rfl) (by kernel_rfl) (fun _ _ _ h => h) (Or.inl ⟨by rfl, ?_⟩) (by assumption) ?_
        rotate_left 1
        · intro w hSw
          (try dsimp only at hSw)
          go_simp
          all_goals (with_reducible rfl)
        try simp only [Act.put, List.getElem_toArray, List.getElem_cons_zero, List.getElem_cons_succ, List.setIfInBounds_toArray, List.set_cons_zero, List.set_cons_succ]
        refine AnyE.take (i := 7) (v := ?_) rfl (by kernel_rfl) (by kernel_rfl) (by kernel_rfl) (by kernel_rfl) (fun _ _ _ h => h) (Or.inl ⟨by rfl, ?_⟩) (by assumption) ?_
        rotate_left 1
        · intro w hSw
          (try dsimp only at hSw)
          go_simp
          all_goals (with_reducible rfl)
        try simp only [Act.put, List.getElem_toArray, List.getElem_cons_zero, List.getElem_cons_succ, List.setIfInBounds_toArray, List.set_cons_zero, List.set_cons_succ]
        refine AnyE.take (i := 8) (v := ?_) rfl (by kernel_rfl) (by kernel_rfl) (by kernel_rfl) (by kernel_rfl) (fun _ _ _ h => h) (Or.inl ⟨by rfl, ?_⟩) (by assumption) ?_
        rotate_left 1
        · intro w hSw
          (try dsimp only at hSw)
          go_simp
          all_goals (with_reducible rfl)
        try simp only [Act.put, List.getElem_toArray, List.getElem_cons_zero, List.getElem_cons_succ, List.setIfInBounds_toArray, List.set_cons_zero, List.set_cons_succ]
        refine AnyE.take (i := 9) (v := ?_) rfl (by kernel_rfl) (by kernel_rfl) (by kernel_rfl) (by kernel_rfl) (fun _ _ _ h => h) (Or.inl ⟨by rfl, ?_⟩) (by assumption) ?_
        rotate_left 1
        · intro w hSw
          (try dsimp only at hSw)
          go_simp
          all_goals (with_reducible rfl)
        try simp only [Act.put, List.getElem_toArray, List.getElem_cons_zero, List.getElem_cons_succ, List.setIfInBounds_toArray, List.set_cons_zero, List.set_cons_succ]
        refine AnyE.take (i := 10) (v := ?_) rfl (by kernel_rfl) (by kernel_rfl) (by kernel_rfl) (by kernel_rfl) (fun _ _ _ h => h) (Or.inl ⟨by rfl, ?_⟩) (by assumption) ?_
        rotate_left 1
        · intro w hSw
          (try dsimp only at hSw)
          go_simp
          all_goals (with_reducible rfl)
        try simp only [Act.put, List.getElem_toArray, List.getElem_cons_zero, List.getElem_cons_succ, List.setIfInBounds_toArray, List.set_cons_zero, List.set_cons_succ]
        refine AnyE.take (i := 11) (v := ?_) rfl (by kernel_rfl) (by kernel_rfl) (by kernel_rfl) (by kernel_rfl) (fun _ _ _ h => h) (Or.inl ⟨by rfl, ?_⟩) (by assumption) ?_
        rotate_left 1
        · intro w hSw
          (try dsimp only at hSw)
          go_simp
          all_goals (with_reducible rfl)
        try simp only [Act.put, List.getElem_toArray, List.getElem_cons_zero, List.getElem_cons_succ, List.setIfInBounds_toArray, List.set_cons_zero, List.set_cons_succ]
        refine AnyE.next (rs := [12]) (by kernel_rfl) (by simp) ?_
        refine AllE.cons rfl (fun K hK => ?_) AllE.nil
        go_simp
        refine (HTU.out _ HA.out.rest.las).mono ?_
        rintro e w1 ⟨vq, rfl, hown, hb⟩
        obtain ⟨x1, z1, rfl, _, _⟩ := ownsRow_slice hown
        have S1 := S0.below hb (Nat.le_refl _)
        have HA1 := Lib.hid (HA.out.below hb)
        have HN2 := Lib.hid (show IsN w1 (.slice x1 (turnT (tUp d i) x).length z1) (turnT (tUp d i) x) from IsX.own hown)
        have HL1 := Lib.hid (show ∀ b, (Value.slice x1 (turnT (tUp d i) x).length z1).ownBlock = some b → wr.heap.size ≤ b from fun b hb => (hown.lt b hb).1)
        have HB1 := Lib.hid (show Below wr.heap.size wr w1 from (Below.refl wr.heap.size wr).drew.trans hb)
        have g2 := HA1.out.box.free 2
        clear hown hb
        refine hK.out _ _ (S1) (fun hHeld => ?_)
        clear hK K
        try simp only [Act.put, List.getElem_toArray, List.getElem_cons_zero, List.getElem_cons_succ, List.setIfInBounds_toArray, List.set_cons_zero, List.set_cons_succ]
        refine AnyE.next (rs := [13]) (by kernel_rfl) (by simp) ?_
        refine AllE.cons rfl (fun K hK => ?_) AllE.nil
        go_simp
        refine hK.out _ _ (S1) (fun hHeld => ?_)
        clear hK K
        try simp only [Act.put, List.getElem_toArray, List.getElem_cons_zero, List.getElem_cons_succ, List.setIfInBounds_toArray, List.set_cons_zero, List.set_cons_succ]
        refine AnyE.next (rs := [14]) (by kernel_rfl) (by simp) ?_
        refine AllE.cons rfl (fun K hK => ?_) AllE.nil
        go_simp
        refine hK.out _ _ (S1) (fun hHeld => ?_)
        clear hK K
        try simp only [Act.put, List.getElem_toArray, List.getElem_cons_zero, List.getElem_cons_succ, List.setIfInBounds_toArray, List.set_cons_zero, List.set_cons_succ]
        refine AnyE.next (rs := [15]) (by kernel_rfl) (by simp) ?_
        refine AllE.last rfl (fun K hK => ?_)
        go_simp
        refine hK.out _ _ ?_
        clear hK K
        try simp only [Act.put, List.getElem_toArray, List.getElem_cons_zero, List.getElem_cons_succ, List.setIfInBounds_toArray, List.set_cons_zero, List.set_cons_succ]
        refine AnyE.done (by kernel_rfl) ?_ _
        have HLF := Lib.hid (show ∀ b, L1.fil.ownBlock = some b → b < wr.heap.size from fun b hb => (HA.out.rest.fil.lt b hb).2)
        have HRX := Lib.hid (show Rs w0 g L R (dL d (tUp d (i + 1))) (w1.setCell ⟨g, 2, none⟩ (Value.slice x1 (turnT (tUp d i) x).length z1)) from by
          rw [HTN.out]
          have h2 := HA1.out.setLas HN2.out (fun b hb => ⟨fun e => by have := HL1.out b hb.2; omega, fun e => by have h1 := HL1.out b hb.2; have h2 := HLF.out b e; omega⟩)
          exact Rs.trans HK.out HR.out HF.out ⟨_, _, h2, (Kept.of_below HB1.out (Nat.le_refl _)).setCell (p := ⟨g, 2, none⟩) (.inl (.inl rfl)) _, fun b hb => hb.imp id (fun h => HL1.out b h.2), fun b hb => .inl hb⟩)
        clear S0 S1 g2
        go_wp2_with fail
        go_roundw
        case rel => exact ⟨i + 1, by omega, by go_num, HRX⟩
        case measure => simp [intOf]; omega
      · obtain rfl : i = q := by omega
        have hrt : Rs w0 g L R (dL d T) wr := by rw [← HTQ.out]; exact hRs.out
        have HRT := Lib.hid hrt
        clear hrt hA hK hR hF
        by_cases hi1 : i < N1
        · have hi1' : (i : Int) < (N1 : Int) := by omega
          have hi2 : ¬ (i : Int) < pn := by have := HQE.out; omega
          go_wp2_with fail
          go_meet
          exact HRT
        · have hi1' : ¬ (i : Int) < (N1 : Int) := by omega
          go_wp2_with fail
          go_meet
          exact HRT
  case rest =>
    go_wp2_with fail
    go_loopw [5] (fun x wr => ∃ i : Nat, i ≤ NT ∧ x = .int .i64 i ∧ Hid (Rs w0 g L R (dF d T (fallAll ps d.files (T.take i))) wr)) (fun x _ => NT - (intOf x).toNat)
    case atStart => exact ⟨0, Nat.zero_le _, rfl, hcut⟩
    case round =>
      obtain ⟨i, hiT, rfl, hRs⟩ := hrel
      obtain ⟨L1, R1, hA, hK, hR, hF⟩ := hRs.out
      obtain ⟨_, c1, c2, c3, c4, c5⟩ := hA.facts
      have hlas := fun W => len_X (P := Try.prog) hA.rest.las 31 3 _ Try.underlying31 W
      have hll : ∀ W, (Builtin.len_ #[31] 3 #[L1.las]).run Try.prog W = .ok (.int .i64 (NT : Int)) W := fun W => by rw [hlas W]; show Result.ok (Value.int .i64 ((T.length : Nat) : Int)) W = _; rw [HNT.out]
      clear hlas
      by_cases hlt : i < NT
      · obtain ⟨e, he⟩ : ∃ e, T[i]? = some e := ⟨_, List.getElem?_eq_getElem (by rw [HNT.out]; omega)⟩
        obtain ⟨b, o, hidx, _, e0, e1⟩ := indexAt_N (l := T) hA.rest.las he
        have HSN := Lib.hid (fallAll_snoc ps d.files T i he)
        have hkf : e.2 < (fallAll ps d.files (T.take i)).length := by rw [fallAll_len]; exact (HTE.out e (List.mem_of_getElem? he)).2
        have hfo := fallAll_ok (ps := ps) (T.take i) HO.out.fil
        obtain ⟨K, hKe⟩ : ∃ K, e.2 = K := ⟨_, rfl⟩
        rw [hKe] at e1 hkf
        have HSN := Lib.hid (show fallAll ps d.files (T.take (i + 1)) = (fallAll ps d.files (T.take i)).set K (fallF (fat (fallAll ps d.files (T.take i)) K) (pickAt ps K)) from by rw [← hKe]; exact HSN.out)
        obtain ⟨FS, hFS⟩ : ∃ FS, fallAll ps d.files (T.take i) = FS := ⟨_, rfl⟩
        rw [hFS] at hA hkf hfo HSN
        obtain ⟨fv, hfv, hfB⟩ := hA.rest.fileAt hkf
        have hflen : (fat FS K).lasts ≤ (fat FS K).b.length ∧ (fat FS K).b.length ≤ 16777216 := hfo _ (fat_mem hkf)
        obtain ⟨F, hF1, hidf, hc, hfr, _⟩ := indexAt_own hA.rest.fil 33 _ Try.underlying33 Try.sizeRFil K (by rw [rfps_len hA.rest]; exact hkf)
        have f0 := hc 0 (by decide)
        have f1 := hc 1 (by decide)
        rw [row_get rfe_len hfv _ (by decide)] at f0 f1
        simp only [rfe, List.getElem?_cons_zero, List.getElem?_cons_succ, Nat.add_zero] at f0 f1
        obtain ⟨FB, hFB⟩ : ∃ b, (fat FS K).b = b := ⟨_, rfl⟩
        obtain ⟨FN, hFN⟩ : ∃ n, FB.length = n := ⟨_, rfl⟩
        obtain ⟨LA, hLA⟩ : ∃ n, (fat FS K).lasts = n := ⟨_, rfl⟩
        obtain ⟨fx, fz, rfl, hfz, hfm⟩ := hfB.at_len (n := FN) (by rw [hFB]; exact hFN)
        rw [hFB, hFN, hLA] at hflen
        rw [hLA] at f1
        rw [hFB] at hfB
        obtain ⟨kp, tn, hP⟩ : ∃ kp tn, pickAt ps K = ⟨kp, tn⟩ := ⟨_, _, rfl⟩
        obtain ⟨REM, hREM'⟩ : ∃ r, r = FN - LA := ⟨_, rfl⟩
        have hREM : (FN : Int) - (LA : Int) = (REM : Int) := by omega
        have hREMl : LA + REM = FN := by omega
        have hfF : fallF (fat FS K) ⟨kp, tn⟩ = ⟨if 0 < clampN kp REM then (FB.take (LA + clampN kp REM)).set (LA + clampN kp REM - 1) (FB.getD (LA + clampN kp REM - 1) 0 ^^^ tn) else FB.take (LA + clampN kp REM), LA + clampN kp REM⟩ := by
          unfold fallF
          rw [hFB, hLA, hFN, ← hREM']
        have hlenB := fun W => len_X (P := Try.prog) (isX_of_B hfB) 37 3 _ Try.underlying37 W
        rw [hFN] at hlenB
        have hgr := hA.box.lt
        have hFr : F < wr.heap.size := (hA.rest.fil.lt F hF1).2
        have HFI := Lib.hid hfF
        have HXB := Lib.hid (show IsX wr 1 (.slice fx FN fz) FN (bvs FB) from by have h := isX_of_B hfB; rwa [hFN] at h)
        have HFN := Lib.hid hFN
        have HST := Lib.hid (fun u v => rwrite_st (F := F) (f := K) u v hA.rest.fil hF1)
        have HFV := Lib.hid hfv
        have HFF := Lib.hid hF1
        have HRS1 := Lib.hid (fun d2 w2 (h2 : Rs wr g L1 R1 d2 w2) => Rs.trans hK hR hF h2)
        have HVr := Lib.hid (HV.out.kept hK (fun b hb => HPV.out b hb))
        have hQr := HQ0.out.kept hK (fun e => e.elim (fun e => by omega) (fun e => by have := HFL.out _ e; omega))
        have q1 := hQr.cell 1 (v := pv) rfl
        have hqr := hQr.lt
        have HPP := Lib.hid hP
        have HF1 := Lib.hid (show ∀ W, Below wr.heap.size wr W → W.cell? ⟨F, K * 2, none⟩ = some (.slice fx FN fz) ∧ W.cell? ⟨F, K * 2 + 1, none⟩ = some (.int .i64 (LA : Int)) ∧ W.frozen? ⟨F, K * 2, none⟩ = false ∧ W.frozen? ⟨F, K * 2 + 1, none⟩ = false from fun W hb =>
          ⟨(hb.cell (p := ⟨F, K * 2, none⟩) hFr).trans f0, (hb.cell (p := ⟨F, K * 2 + 1, none⟩) hFr).trans f1, (World.frozen?_of_block (w := wr) (hb.block F hFr)).trans (hfr _), (World.frozen?_of_block (w := wr) (hb.block F hFr)).trans (hfr _)⟩)
        obtain ⟨w2, hw2⟩ : ∃ w2, w2 = (wr.alloc (.cells #[.slice fx FN fz, .int .i64 (LA : Int)] 50)).alloc (.cells #[.int .i64 kp, .int .u8 (tn.toNat : Int)] 107) := ⟨_, rfl⟩
        have hb2 : Below wr.heap.size wr w2 := by rw [hw2]; exact ((Below.refl _ wr).alloc (Nat.le_refl _) _).alloc (by simp) _
        have hs2 : w2.heap.size = wr.heap.size + 2 := by rw [hw2]; simp
        have hX2 : Blk w2 wr.heap.size #[.slice fx FN fz, .int .i64 (LA : Int)] 50 := by rw [hw2]; exact (Blk.new wr _ _).alloc _
        have hO2 : Blk w2 (wr.heap.size + 1) #[.int .i64 kp, .int .u8 (tn.toNat : Int)] 107 := by
          rw [hw2]
          have := Blk.new (wr.alloc (.cells #[.slice fx FN fz, .int .i64 (LA : Int)] 50)) #[.int .i64 kp, .int .u8 (tn.toNat : Int)] 107
          simpa using this
        have HB2 := Lib.hid hb2
        have HS2 := Lib.hid hs2
        have HX2 := Lib.hid hX2
        have HO2 := Lib.hid hO2
        have HA := Lib.hid hA
        have HW2 := Lib.hid hw2
        have HRL := Lib.hid hREM'
        have HKF := Lib.hid hkf
        clear hRs hA hK hR hF he hKe hFS hfv hfB hkf hfo hF1 hc hFB hFN hLA hP hfF hQr hb2 hs2 hX2 hO2 hw2 hREM' hfr HV HQ0 HRS hcut
        go_upto_if 69 with fail
        go_cut [] from 40 to 133 (fun wx => wx = w2)
        case first =>
          have hwe : w2 = (wr.alloc (.cells #[.slice fx FN fz, .int .i64 (LA : Int)] 50)).alloc (.cells #[.int .i64 kp, .int .u8 (tn.toNat : Int)] 107) := HW2.out
          by_cases hkM : K < M
          · obtain ⟨p, hp⟩ : ∃ p, ps[K]? = some p := ⟨_, List.getElem?_eq_getElem (by rw [HM.out]; exact hkM)⟩
            have hpe : p = ⟨kp, tn⟩ := by
              rw [← HPP.out]
              unfold pickAt
              rw [List.getD_eq_getElem?_getD, hp]
              rfl
            subst hpe
            obtain ⟨pb, po, hidp, _, hpc⟩ := indexAt_X HVr.out 40 _ Try.underlying40 Try.sizeRPick K (by rw [HM.out]; exact hkM)
            have p0 := hpc 0 (by decide)
            have p1 := hpc 1 (by decide)
            rw [row_get pck_len hp _ (by decide)] at p0 p1
            simp only [pck, List.getElem?_cons_zero, List.getElem?_cons_succ, Nat.add_zero] at p0 p1
            have hkM' : (K : Int) < (M : Int) := by omega
            have hpb : pb < wr.heap.size := cell_lt p0
            clear hpc hp hwe
            go_wp2_with fail
            go_meet
            exact HW2.out.symm
          · have hkM' : ¬ (K : Int) < (M : Int) := by omega
            have hpe : pickAt ps K = ⟨0, 0⟩ := by
              unfold pickAt
              rw [List.getD_eq_getElem?_getD, List.getElem?_eq_none (by rw [HM.out]; omega)]
              rfl
            have hpp := HPP.out.symm.trans hpe
            cases hpp
            clear hwe
            go_wp2_with fail
            go_meet
            exact HW2.out.symm
        case rest =>
          obtain rfl := hcut.symm
          by_cases hneg : kp < 0
          · have hr0 : ¬ (REM : Int) < 0 := by omega
            obtain ⟨Q, hQ'⟩ : ∃ Q, LA + (0 : Nat) = Q := ⟨_, rfl⟩
            obtain rfl : Q = LA := by omega
            have hQl : Q ≤ FN := by omega
            have hsl := slice_h_X (P := Try.prog) 1 fx FN fz 37 5 Try.underlying37 Try.sizeU8b Q (by omega)
            have x20 := HX2.out.cell 0 (v := .slice fx FN fz) rfl
            have x21 := HX2.out.cell 1 (v := .int .i64 (Q : Int)) rfl
            have o20 := HO2.out.cell 0 (v := .int .i64 kp) rfl
            have hx2 := HX2.out.lt
            have ho2 := HO2.out.lt
            have HXQ := Lib.hid (show IsX wr 1 (.slice fx Q fz) Q (bvs (FB.take Q)) from by
              have h := HXB.out.take (j := Q) hQl
              have e : (bvs FB).take (Q * 1) = bvs (FB.take Q) := by simp [bvs]
              rw [e] at h
              exact h)
            go_wp2_with (at_builtin; refine wpList_append_X (by rfl) _ _ 37 37 rfl (fun _ _ _ => rfl) w2.heap.size 5 ib _ 1 1 Try.underlying37 HI.out HZ0.out HZ1.out HZ2.out rfl (by decide) _ [] 0 rfl (own_litAt w2 w2.heap.size 5 1 w2.heap.size rfl (Nat.le_refl _)) _ Q _ rfl (HXQ.out.mono (HB2.out.alloc HB2.out.size _) (Nat.le_refl _)) (bvs_one _) (by unfold maxLen; omega) (by omega) (by simp) ?_)
            intro v5 w5 hown5 hgr5 hat5
            have hown5 : w5.ownsRow w2.heap.size 5 1 v5 Q (bvs (FB.take Q)) := by simpa using hown5
            obtain ⟨x5, z5, rfl, _, _⟩ := ownsRow_slice hown5
            have hb5 : Below w2.heap.size w2 w5 := ((bel_alloc w2 _).grown hgr5 (by simp) (fun j hj => by have e : some w2.heap.size = some j := hj; have := Option.some.inj e; omega))
            have HO5 := Lib.hid hown5
            have HBW5 := Lib.hid (HB2.out.trans (hb5.mono HB2.out.size))
            have HXX5 := Lib.hid (HX2.out.below hb5 hx2)
            have HOO5 := Lib.hid (HO2.out.below hb5 ho2)
            have fx5 := HXX5.out.free 0
            have cx5 := HXX5.out.cell 0 (v := .slice fx FN fz) rfl
            have cx51 := HXX5.out.cell 1 (v := .int .i64 (Q : Int)) rfl
            have fx51 := HXX5.out.free 1
            have hlen5 := fun W => len_X (P := Try.prog) (IsX.own HO5.out) 37 3 _ Try.underlying37 W
            clear hown5 hgr5 hat5 hb5 x20 x21 o20 hsl
            have HX9 := Lib.hid ((HXX5.out.set 0 (Value.slice x5 Q z5)).set 1 (.int .i64 (Q : Int)))
            have HB9 := Lib.hid ((HBW5.out.setCell (p := ⟨wr.heap.size, 0, none⟩) (Nat.le_refl _) (Value.slice x5 Q z5)).setCell (p := ⟨wr.heap.size, 1, none⟩) (Nat.le_refl _) (.int .i64 (Q : Int)))
            have HA9 := Lib.hid (HA.out.below HB9.out)
            have HIS := Lib.hid (show IsB ((w5.setCell ⟨wr.heap.size, 0, none⟩ (Value.slice x5 Q z5)).setCell ⟨wr.heap.size, 1, none⟩ (.int .i64 (Q : Int))).drew (Value.slice x5 Q z5) (FB.take Q) from (IsB.own HO5.out (by rw [List.length_take, HFN.out]; omega)).kept ((((Kept.refl (fun j => j = wr.heap.size) w5).setCell (p := ⟨wr.heap.size, 0, none⟩) (.inl rfl) _).setCell (p := ⟨wr.heap.size, 1, none⟩) (.inl rfl) _).drew) (fun k hk e => by have h1 := (HO5.out.lt k hk.2).1; rw [e] at h1; omega))
            obtain ⟨w9, hw9⟩ : ∃ w9, w9 = (w5.setCell ⟨wr.heap.size, 0, none⟩ (Value.slice x5 Q z5)).setCell ⟨wr.heap.size, 1, none⟩ (.int .i64 (Q : Int)) := ⟨_, rfl⟩
            go_upto_region 22 with fail
            rw [← hw9] at HX9 HB9 HA9 HIS ⊢
            clear hw9 fx5 cx5 cx51 fx51
            obtain ⟨s0, s1, s2, s3⟩ := HF1.out w9.drew HB9.out.drew
            have s4 : ((w9.setCell ⟨F, K * 2, none⟩ (Value.slice x5 Q z5)).drew).cell? ⟨F, K * 2 + 1, none⟩ = some (.int .i64 (Q : Int)) := (World.cell?_setCell_other w9 ⟨F, K * 2, none⟩ ⟨F, K * 2 + 1, none⟩ (Value.slice x5 Q z5) (fun e => by have := congrArg Addr.off e; simp at this)).trans s1
            have s5 : ((w9.setCell ⟨F, K * 2, none⟩ (Value.slice x5 Q z5)).drew).frozen? ⟨F, K * 2 + 1, none⟩ = false := by show (w9.setCell _ _).frozen? _ = false; rw [World.frozen?_setCell]; exact s3
            have HRX := Lib.hid (show Rs w0 g L R (dF d T (fallAll ps d.files (T.take (i + 1)))) _ from by
              rw [HSN.out, HPP.out, show fallF (fat FS K) ⟨kp, tn⟩ = ⟨FB.take Q, Q⟩ from by rw [HFI.out, show clampN kp REM = (0 : Nat) from by unfold clampN; rw [show kp.toNat = 0 from by omega]; exact Nat.zero_min _, hQ', if_neg (by omega)]]
              exact HRS1.out _ _ (rwrite_fin (p' := (⟨FB.take Q, Q⟩, (Value.slice x5 Q z5))) HB9.out.drew (HA9.out.below ((Below.refl _ _).drew)) HFV.out HFF.out HIS.out (fun b hb => .inr (by have h1 := (HO5.out.lt b hb.2).1; omega)) hgr hFr (HST.out _ _)))
            clear f0 f1
            refine AnyE.start (S := (fun wx => wx.cell? ⟨g, 4, none⟩ = some L1.fil ∧ wx.cell? ⟨wr.heap.size, 0, none⟩ = some (Value.slice x5 Q z5) ∧ wx.cell? ⟨wr.heap.size, 1, none⟩ = some (.int .i64 (Q : Int)))) 7 (by kernel_rfl) (⟨HA9.out.facts.2.2.2.2.1, HX9.out.cell 0 rfl, HX9.out.cell 1 rfl⟩) (fun hHeld => ?_)
            refine AnyE.take (i := 0) (v := ?_) rfl (by kernel_rfl) (by kernel_rfl) (by kernel_rfl) (by kernel_rfl) (fun _ _ _ h => h) (Or.inl ⟨by rfl, ?_⟩) (by assumption) ?_
            rotate_left 1
            · intro w hSw
              (try dsimp only at hSw)
              go_simp
              all_goals (with_reducible rfl)
            try simp only [Act.put, List.getElem_toArray, List.getElem_cons_zero, List.getElem_cons_succ, List.setIfInBounds_toArray, List.set_cons_zero, List.set_cons_succ]
            refine AnyE.take (i := 1) (v := ?_) rfl (by kernel_rfl) (by kernel_rfl) (by kernel_rfl) (by kernel_rfl) (fun _ _ _ h => h) (Or.inl ⟨by rfl, ?_⟩) (by assumption) ?_
            rotate_left 1
            · intro w hSw
              (try dsimp only at hSw)
              go_simp
              all_goals (with_reducible rfl)
            try simp only [Act.put, List.getElem_toArray, List.getElem_cons_zero, List.getElem_cons_succ, List.setIfInBounds_toArray, List.set_cons_zero, List.set_cons_succ]
            refine AnyE.take (i := 2) (v := ?_) rfl (by kernel_rfl) (by kernel_rfl) (by kernel_rfl) (by kernel_rfl) (fun _ _ _ h => h) (Or.inl ⟨by rfl, ?_⟩) (by assumption) ?_
            rotate_left 1
            · intro w hSw
              (try dsimp only at hSw)
              go_simp
              all_goals (with_reducible rfl)
            try simp only [Act.put, List.getElem_toArray, List.getElem_cons_zero, List.getElem_cons_succ, List.setIfInBounds_toArray, List.set_cons_zero, List.set_cons_succ]
            refine AnyE.take (i := 3) (v := ?_) rfl (by kernel_rfl) (by kernel_rfl) (by kernel_rfl) (by kernel_rfl) (fun _ _ _ h => h) (Or.inl ⟨by rfl, ?_⟩) (by assumption) ?_
            rotate_left 1
            · intro w hSw
              (try dsimp only at hSw)
              go_simp
              all_goals (with_reducible rfl)
            try simp only [Act.put, List.getElem_toArray, List.getElem_cons_zero, List.getElem_cons_succ, List.setIfInBounds_toArray, List.set_cons_zero, List.set_cons_succ]
            refine AnyE.take (i := 4) (v := ?_) rfl (by kernel_rfl) (by kernel_rfl) (by kernel_rfl) (by kernel_rfl) (fun _ _ _ h => h) (Or.inl ⟨by rfl, ?_⟩) (by assumption) ?_
            rotate_left 1
            · intro w hSw
              (try dsimp only at hSw)
              go_simp
              all_goals (with_reducible rfl)
            try simp only [Act.put, List.getElem_toArray, List.getElem_cons_zero, List.getElem_cons_succ, List.setIfInBounds_toArray, List.set_cons_zero, List.set_cons_succ]
            refine AnyE.take (i := 5) (v := ?_) rfl (by kernel_rfl) (by kernel_rfl) (by kernel_rfl) (by kernel_rfl) (fun _ _ _ h => h) (Or.inl ⟨by rfl, ?_⟩) (by assumption) ?_
            rotate_left 1
            · intro w hSw
              (try dsimp only at hSw)
              go_simp
              all_goals (with_reducible rfl)
            try simp only [Act.put, List.getElem_toArray, List.getElem_cons_zero, List.getElem_cons_succ, List.setIfInBounds_toArray, List.set_cons_zero, List.set_cons_succ]
            refine AnyE.next (rs := [6]) (by kernel_rfl) (by simp) ?_
            refine AllE.cons rfl (fun K hK => ?_) AllE.nil
            go_simp
            refine hK.out _ _ (by assumption) (fun hHeld => ?_)
            clear hK K
            try simp only [Act.put, List.getElem_toArray, List.getElem_cons_zero, List.getElem_cons_succ, List.setIfInBounds_toArray, List.set_cons_zero, List.set_cons_succ]
            refine AnyE.next (rs := [7]) (by kernel_rfl) (by simp) ?_
            refine AllE.last rfl (fun K hK => ?_)
            go_simp
            refine hK.out _ _ ?_
            clear hK K
            try simp only [Act.put, List.getElem_toArray, List.getElem_cons_zero, List.getElem_cons_succ, List.setIfInBounds_toArray, List.set_cons_zero, List.set_cons_succ]
            refine AnyE.done (by kernel_rfl) ?_ _
            go_wp2_with fail
            go_roundw
            case rel => exact ⟨i + 1, by omega, by go_num, HRX⟩
            case measure => simp [intOf]; omega
          by_cases hbig : (REM : Int) < kp
          · by_cases hz : REM = 0
            · subst hz
              obtain ⟨Q, hQ'⟩ : ∃ Q, LA + (0 : Nat) = Q := ⟨_, rfl⟩
              obtain rfl : Q = LA := by omega
              have hQl : Q ≤ FN := by omega
              have hsl := slice_h_X (P := Try.prog) 1 fx FN fz 37 5 Try.underlying37 Try.sizeU8b Q (by omega)
              have x20 := HX2.out.cell 0 (v := .slice fx FN fz) rfl
              have x21 := HX2.out.cell 1 (v := .int .i64 (Q : Int)) rfl
              have o20 := HO2.out.cell 0 (v := .int .i64 kp) rfl
              have hx2 := HX2.out.lt
              have ho2 := HO2.out.lt
              have HXQ := Lib.hid (show IsX wr 1 (.slice fx Q fz) Q (bvs (FB.take Q)) from by
                have h := HXB.out.take (j := Q) hQl
                have e : (bvs FB).take (Q * 1) = bvs (FB.take Q) := by simp [bvs]
                rw [e] at h
                exact h)
              go_wp2_with (at_builtin; refine wpList_append_X (by rfl) _ _ 37 37 rfl (fun _ _ _ => rfl) w2.heap.size 5 ib _ 1 1 Try.underlying37 HI.out HZ0.out HZ1.out HZ2.out rfl (by decide) _ [] 0 rfl (own_litAt w2 w2.heap.size 5 1 w2.heap.size rfl (Nat.le_refl _)) _ Q _ rfl (HXQ.out.mono (HB2.out.alloc HB2.out.size _) (Nat.le_refl _)) (bvs_one _) (by unfold maxLen; omega) (by omega) (by simp) ?_)
              intro v5 w5 hown5 hgr5 hat5
              have hown5 : w5.ownsRow w2.heap.size 5 1 v5 Q (bvs (FB.take Q)) := by simpa using hown5
              obtain ⟨x5, z5, rfl, _, _⟩ := ownsRow_slice hown5
              have hb5 : Below w2.heap.size w2 w5 := ((bel_alloc w2 _).grown hgr5 (by simp) (fun j hj => by have e : some w2.heap.size = some j := hj; have := Option.some.inj e; omega))
              have HO5 := Lib.hid hown5
              have HBW5 := Lib.hid (HB2.out.trans (hb5.mono HB2.out.size))
              have HXX5 := Lib.hid (HX2.out.below hb5 hx2)
              have HOO5 := Lib.hid (HO2.out.below hb5 ho2)
              have fx5 := HXX5.out.free 0
              have cx5 := HXX5.out.cell 0 (v := .slice fx FN fz) rfl
              have cx51 := HXX5.out.cell 1 (v := .int .i64 (Q : Int)) rfl
              have fx51 := HXX5.out.free 1
              have hlen5 := fun W => len_X (P := Try.prog) (IsX.own HO5.out) 37 3 _ Try.underlying37 W
              clear hown5 hgr5 hat5 hb5 x20 x21 o20 hsl
              have HX9 := Lib.hid ((HXX5.out.set 0 (Value.slice x5 Q z5)).set 1 (.int .i64 (Q : Int)))
              have HB9 := Lib.hid ((HBW5.out.setCell (p := ⟨wr.heap.size, 0, none⟩) (Nat.le_refl _) (Value.slice x5 Q z5)).setCell (p := ⟨wr.heap.size, 1, none⟩) (Nat.le_refl _) (.int .i64 (Q : Int)))
              have HA9 := Lib.hid (HA.out.below HB9.out)
              have HIS := Lib.hid (show IsB ((w5.setCell ⟨wr.heap.size, 0, none⟩ (Value.slice x5 Q z5)).setCell ⟨wr.heap.size, 1, none⟩ (.int .i64 (Q : Int))).drew (Value.slice x5 Q z5) (FB.take Q) from (IsB.own HO5.out (by rw [List.length_take, HFN.out]; omega)).kept ((((Kept.refl (fun j => j = wr.heap.size) w5).setCell (p := ⟨wr.heap.size, 0, none⟩) (.inl rfl) _).setCell (p := ⟨wr.heap.size, 1, none⟩) (.inl rfl) _).drew) (fun k hk e => by have h1 := (HO5.out.lt k hk.2).1; rw [e] at h1; omega))
              obtain ⟨w9, hw9⟩ : ∃ w9, w9 = (w5.setCell ⟨wr.heap.size, 0, none⟩ (Value.slice x5 Q z5)).setCell ⟨wr.heap.size, 1, none⟩ (.int .i64 (Q : Int)) := ⟨_, rfl⟩
              go_upto_region 22 with fail
              rw [← hw9] at HX9 HB9 HA9 HIS ⊢
              clear hw9 fx5 cx5 cx51 fx51
              obtain ⟨s0, s1, s2, s3⟩ := HF1.out w9.drew HB9.out.drew
              have s4 : ((w9.setCell ⟨F, K * 2, none⟩ (Value.slice x5 Q z5)).drew).cell? ⟨F, K * 2 + 1, none⟩ = some (.int .i64 (Q : Int)) := (World.cell?_setCell_other w9 ⟨F, K * 2, none⟩ ⟨F, K * 2 + 1, none⟩ (Value.slice x5 Q z5) (fun e => by have := congrArg Addr.off e; simp at this)).trans s1
              have s5 : ((w9.setCell ⟨F, K * 2, none⟩ (Value.slice x5 Q z5)).drew).frozen? ⟨F, K * 2 + 1, none⟩ = false := by show (w9.setCell _ _).frozen? _ = false; rw [World.frozen?_setCell]; exact s3
              have HRX := Lib.hid (show Rs w0 g L R (dF d T (fallAll ps d.files (T.take (i + 1)))) _ from by
                rw [HSN.out, HPP.out, show fallF (fat FS K) ⟨kp, tn⟩ = ⟨FB.take Q, Q⟩ from by rw [HFI.out, show clampN kp 0 = (0 : Nat) from by unfold clampN; exact Nat.min_zero _, hQ', if_neg (by omega)]]
                exact HRS1.out _ _ (rwrite_fin (p' := (⟨FB.take Q, Q⟩, (Value.slice x5 Q z5))) HB9.out.drew (HA9.out.below ((Below.refl _ _).drew)) HFV.out HFF.out HIS.out (fun b hb => .inr (by have h1 := (HO5.out.lt b hb.2).1; omega)) hgr hFr (HST.out _ _)))
              clear f0 f1
              refine AnyE.start (S := (fun wx => wx.cell? ⟨g, 4, none⟩ = some L1.fil ∧ wx.cell? ⟨wr.heap.size, 0, none⟩ = some (Value.slice x5 Q z5) ∧ wx.cell? ⟨wr.heap.size, 1, none⟩ = some (.int .i64 (Q : Int)))) 7 (by kernel_rfl) (⟨HA9.out.facts.2.2.2.2.1, HX9.out.cell 0 rfl, HX9.out.cell 1 rfl⟩) (fun hHeld => ?_)
              refine AnyE.take (i := 0) (v := ?_) rfl (by kernel_rfl) (by kernel_rfl) (by kernel_rfl) (by kernel_rfl) (fun _ _ _ h => h) (Or.inl ⟨by rfl, ?_⟩) (by assumption) ?_
              rotate_left 1
              · intro w hSw
                (try dsimp only at hSw)
                go_simp
                all_goals (with_reducible rfl)
              try simp only [Act.put, List.getElem_toArray, List.getElem_cons_zero, List.getElem_cons_succ, List.setIfInBounds_toArray, List.set_cons_zero, List.set_cons_succ]
              refine AnyE.take (i := 1) (v := ?_) rfl (by kernel_rfl) (by kernel_rfl) (by kernel_rfl) (by kernel_rfl) (fun _ _ _ h => h) (Or.inl ⟨by rfl, ?_⟩) (by assumption) ?_
              rotate_left 1
              · intro w hSw
                (try dsimp only at hSw)
                go_simp
                all_goals (with_reducible rfl)
              try simp only [Act.put, List.getElem_toArray, List.getElem_cons_zero, List.getElem_cons_succ, List.setIfInBounds_toArray, List.set_cons_zero, List.set_cons_succ]
              refine AnyE.take (i := 2) (v := ?_) rfl (by kernel_rfl) (by kernel_rfl) (by kernel_rfl) (by kernel_rfl) (fun _ _ _ h => h) (Or.inl ⟨by rfl, ?_⟩) (by assumption) ?_
              rotate_left 1
              · intro w hSw
                (try dsimp only at hSw)
                go_simp
                all_goals (with_reducible rfl)
              try simp only [Act.put, List.getElem_toArray, List.getElem_cons_zero, List.getElem_cons_succ, List.setIfInBounds_toArray, List.set_cons_zero, List.set_cons_succ]
              refine AnyE.take (i := 3) (v := ?_) rfl (by kernel_rfl) (by kernel_rfl) (by kernel_rfl) (by kernel_rfl) (fun _ _ _ h => h) (Or.inl ⟨by rfl, ?_⟩) (by assumption) ?_
              rotate_left 1
              · intro w hSw
                (try dsimp only at hSw)
                go_simp
                all_goals (with_reducible rfl)
              try simp only [Act.put, List.getElem_toArray, List.getElem_cons_zero, List.getElem_cons_succ, List.setIfInBounds_toArray, List.set_cons_zero, List.set_cons_succ]
              refine AnyE.take (i := 4) (v := ?_) rfl (by kernel_rfl) (by kernel_rfl) (by kernel_rfl) (by kernel_rfl) (fun _ _ _ h => h) (Or.inl ⟨by rfl, ?_⟩) (by assumption) ?_
              rotate_left 1
              · intro w hSw
                (try dsimp only at hSw)
                go_simp
                all_goals (with_reducible rfl)
              try simp only [Act.put, List.getElem_toArray, List.getElem_cons_zero, List.getElem_cons_succ, List.setIfInBounds_toArray, List.set_cons_zero, List.set_cons_succ]
              refine AnyE.take (i := 5) (v := ?_) rfl (by kernel_rfl) (by kernel_rfl) (by kernel_rfl) (by kernel_rfl) (fun _ _ _ h => h) (Or.inl ⟨by rfl, ?_⟩) (by assumption) ?_
              rotate_left 1
              · intro w hSw
                (try dsimp only at hSw)
                go_simp
                all_goals (with_reducible rfl)
              try simp only [Act.put, List.getElem_toArray, List.getElem_cons_zero, List.getElem_cons_succ, List.setIfInBounds_toArray, List.set_cons_zero, List.set_cons_succ]
              refine AnyE.next (rs := [6]) (by kernel_rfl) (by simp) ?_
              refine AllE.cons rfl (fun K hK => ?_) AllE.nil
              go_simp
              refine hK.out _ _ (by assumption) (fun hHeld => ?_)
              clear hK K
              try simp only [Act.put, List.getElem_toArray, List.getElem_cons_zero, List.getElem_cons_succ, List.setIfInBounds_toArray, List.set_cons_zero, List.set_cons_succ]
              refine AnyE.next (rs := [7]) (by kernel_rfl) (by simp) ?_
              refine AllE.last rfl (fun K hK => ?_)
              go_simp
              refine hK.out _ _ ?_
              clear hK K
              try simp only [Act.put, List.getElem_toArray, List.getElem_cons_zero, List.getElem_cons_succ, List.setIfInBounds_toArray, List.set_cons_zero, List.set_cons_succ]
              refine AnyE.done (by kernel_rfl) ?_ _
              go_wp2_with fail
              go_roundw
              case rel => exact ⟨i + 1, by omega, by go_num, HRX⟩
              case measure => simp [intOf]; omega
            · have hz2 : (0 : Int) < (REM : Int) := by omega
              obtain ⟨Q, hQ'⟩ : ∃ Q, LA + REM = Q := ⟨_, rfl⟩
              have hQ : (LA : Int) + (REM : Int) = (Q : Int) := by omega
              have hQl : Q ≤ FN := by omega
              have hsl := slice_h_X (P := Try.prog) 1 fx FN fz 37 5 Try.underlying37 Try.sizeU8b Q (by omega)
              have x20 := HX2.out.cell 0 (v := .slice fx FN fz) rfl
              have x21 := HX2.out.cell 1 (v := .int .i64 (LA : Int)) rfl
              have o20 := HO2.out.cell 0 (v := .int .i64 kp) rfl
              have hx2 := HX2.out.lt
              have ho2 := HO2.out.lt
              have HXQ := Lib.hid (show IsX wr 1 (.slice fx Q fz) Q (bvs (FB.take Q)) from by
                have h := HXB.out.take (j := Q) hQl
                have e : (bvs FB).take (Q * 1) = bvs (FB.take Q) := by simp [bvs]
                rw [e] at h
                exact h)
              go_wp2_with (at_builtin; refine wpList_append_X (by rfl) _ _ 37 37 rfl (fun _ _ _ => rfl) w2.heap.size 5 ib _ 1 1 Try.underlying37 HI.out HZ0.out HZ1.out HZ2.out rfl (by decide) _ [] 0 rfl (own_litAt w2 w2.heap.size 5 1 w2.heap.size rfl (Nat.le_refl _)) _ Q _ rfl (HXQ.out.mono (HB2.out.alloc HB2.out.size _) (Nat.le_refl _)) (bvs_one _) (by unfold maxLen; omega) (by omega) (by simp) ?_)
              intro v5 w5 hown5 hgr5 hat5
              have hown5 : w5.ownsRow w2.heap.size 5 1 v5 Q (bvs (FB.take Q)) := by simpa using hown5
              obtain ⟨x5, z5, rfl, _, _⟩ := ownsRow_slice hown5
              have hb5 : Below w2.heap.size w2 w5 := ((bel_alloc w2 _).grown hgr5 (by simp) (fun j hj => by have e : some w2.heap.size = some j := hj; have := Option.some.inj e; omega))
              have HO5 := Lib.hid hown5
              have HBW5 := Lib.hid (HB2.out.trans (hb5.mono HB2.out.size))
              have HXX5 := Lib.hid (HX2.out.below hb5 hx2)
              have HOO5 := Lib.hid (HO2.out.below hb5 ho2)
              have fx5 := HXX5.out.free 0
              have cx5 := HXX5.out.cell 0 (v := .slice fx FN fz) rfl
              have cx51 := HXX5.out.cell 1 (v := .int .i64 (LA : Int)) rfl
              have fx51 := HXX5.out.free 1
              have hlen5 := fun W => len_X (P := Try.prog) (IsX.own HO5.out) 37 3 _ Try.underlying37 W
              clear hown5 hgr5 hat5 hb5 x20 x21 o20 hsl
              obtain ⟨m, hm⟩ : ∃ m, Q = m + 1 := ⟨Q - 1, by omega⟩
              have hm1 : (Q : Int) - 1 = (m : Int) := by omega
              have hmw : IntKind.i64.wrap (m : Int) = (m : Int) := by rw [IntKind.wrap_i64]; omega
              clear hm
              have HO6 := Lib.hid (ownsRow_kept HO5.out ((Kept.refl (fun j => j = wr.heap.size) w5).setCell (p := ⟨wr.heap.size, 0, none⟩) (.inl rfl) (Value.slice x5 Q z5)) (fun k hk e => by have h1 := (HO5.out.lt k hk).1; rw [e] at h1; omega))
              have HX6 := Lib.hid (HXX5.out.set 0 (Value.slice x5 Q z5))
              have HOO6 := Lib.hid (HOO5.out.other (a := ⟨wr.heap.size, 0, none⟩) (by show wr.heap.size ≠ wr.heap.size + 1; omega) (Value.slice x5 Q z5))
              have HB6 := Lib.hid (HBW5.out.setCell (p := ⟨wr.heap.size, 0, none⟩) (Nat.le_refl _) (Value.slice x5 Q z5))
              obtain ⟨w6, hw6⟩ : ∃ w6, w6 = w5.setCell ⟨wr.heap.size, 0, none⟩ (Value.slice x5 Q z5) := ⟨_, rfl⟩
              go_upto_region 20 with fail
              rw [← hw6] at HO6 HX6 HOO6 HB6 ⊢
              clear hw6 fx5 cx5 cx51 fx51
              obtain ⟨G, hG, hidG, hcG, hfG, hstG⟩ := indexAt_own HO6.out 37 _ Try.underlying37 Try.sizeU8b m (by omega)
              rw [Nat.mul_one] at hidG hcG
              have cG := hcG 0 (by decide)
              rw [Nat.add_zero, bvs_get (by rw [List.length_take, HFN.out]; omega)] at cG
              have fG := hfG m
              obtain ⟨yb, hyb⟩ : ∃ yb, (FB.take Q).getD m 0 = yb := ⟨_, rfl⟩
              rw [hyb] at cG
              have hxor : bits .xor .u8 (yb.toNat : Int) (tn.toNat : Int) = (((yb ^^^ tn : UInt8)).toNat : Int) := by rw [u8_xor_nat _ _ yb.toNat_lt tn.toNat_lt, UInt8.toNat_xor]
              have hG2 := (HO6.out.lt G hG)
              have HST6 := Lib.hid (show (w6.setCell ⟨G, m, none⟩ (bv (yb ^^^ tn))).ownsRow w2.heap.size 5 1 (Value.slice x5 Q z5) Q (bvs ((FB.take Q).set m (yb ^^^ tn))) from by have h := hstG m (bv (yb ^^^ tn)); rw [bvs_set] at h; exact h)
              have HYB := Lib.hid hyb
              have HGN := Lib.hid (show wr.heap.size < G ∧ wr.heap.size + 1 < G from by have := HS2.out; omega)
              have cGd : w6.drew.cell? ⟨G, m, none⟩ = some (.int .u8 (yb.toNat : Int)) := cG
              have fGd : w6.drew.frozen? ⟨G, m, none⟩ = false := fG
              clear hcG hfG hstG hyb hG hG2
              refine AnyE.start (S := (fun wx => wx.cell? ⟨wr.heap.size, 0, none⟩ = some (Value.slice x5 Q z5) ∧ wx.cell? ⟨wr.heap.size + 1, 1, none⟩ = some (.int .u8 (tn.toNat : Int)) ∧ wx.cell? ⟨G, m, none⟩ = some (.int .u8 (yb.toNat : Int)))) 18 (by kernel_rfl) (⟨HX6.out.cell 0 rfl, HOO6.out.cell 1 rfl, cGd⟩) (fun hHeld => ?_)
              refine AnyE.take (i := 0) (v := ?_) rfl (by kernel_rfl) (by kernel_rfl) (by kernel_rfl) (by kernel_rfl) (fun _ _ _ h => h) (Or.inl ⟨by rfl, ?_⟩) (by assumption) ?_
              rotate_left 1
              · intro w hSw
                (try dsimp only at hSw)
                go_simp
                all_goals (with_reducible rfl)
              try simp only [Act.put, List.getElem_toArray, List.getElem_cons_zero, List.getElem_cons_succ, List.setIfInBounds_toArray, List.set_cons_zero, List.set_cons_succ]
              refine AnyE.take (i := 1) (v := ?_) rfl (by kernel_rfl) (by kernel_rfl) (by kernel_rfl) (by kernel_rfl) (fun _ _ _ h => h) (Or.inl ⟨by rfl, ?_⟩) (by assumption) ?_
              rotate_left 1
              · intro w hSw
                (try dsimp only at hSw)
                go_simp
                all_goals (with_reducible rfl)
              try simp only [Act.put, List.getElem_toArray, List.getElem_cons_zero, List.getElem_cons_succ, List.setIfInBounds_toArray, List.set_cons_zero, List.set_cons_succ]
              refine AnyE.take (i := 2) (v := ?_) rfl (by kernel_rfl) (by kernel_rfl) (by kernel_rfl) (by kernel_rfl) (fun _ _ _ h => h) (Or.inl ⟨by rfl, ?_⟩) (by assumption) ?_
              rotate_left 1
              · intro w hSw
                (try dsimp only at hSw)
                go_simp
                all_goals (with_reducible rfl)
              try simp only [Act.put, List.getElem_toArray, List.getElem_cons_zero, List.getElem_cons_succ, List.setIfInBounds_toArray, List.set_cons_zero, List.set_cons_succ]
              refine AnyE.take (i := 3) (v := ?_) rfl (by kernel_rfl) (by kernel_rfl) (by kernel_rfl) (by kernel_rfl) (fun _ _ _ h => h) (Or.inl ⟨by rfl, ?_⟩) (by assumption) ?_
              rotate_left 1
              · intro w hSw
                (try dsimp only at hSw)
                go_simp
                all_goals (with_reducible rfl)
              try simp only [Act.put, List.getElem_toArray, List.getElem_cons_zero, List.getElem_cons_succ, List.setIfInBounds_toArray, List.set_cons_zero, List.set_cons_succ]
              refine AnyE.take (i := 4) (v := ?_) rfl (by kernel_rfl) (by kernel_rfl) (by kernel_rfl) (by kernel_rfl) (fun _ _ _ h => h) (Or.inl ⟨by rfl, ?_⟩) (by assumption) ?_
              rotate_left 1
              · intro w hSw
                (try dsimp only at hSw)
                go_simp
                all_goals (with_reducible rfl)
              try simp only [Act.put, List.getElem_toArray, List.getElem_cons_zero, List.getElem_cons_succ, List.setIfInBounds_toArray, List.set_cons_zero, List.set_cons_succ]
              refine AnyE.take (i := 5) (v := ?_) rfl (by kernel_rfl) (by kernel_rfl) (by kernel_rfl) (by kernel_rfl) (fun _ _ _ h => h) (Or.inl ⟨by rfl, ?_⟩) (by assumption) ?_
              rotate_left 1
              · intro w hSw
                (try dsimp only at hSw)
                go_simp
                all_goals (with_reducible rfl)
              try simp only [Act.put, List.getElem_toArray, List.getElem_cons_zero, List.getElem_cons_succ, List.setIfInBounds_toArray, List.set_cons_zero, List.set_cons_succ]
              refine AnyE.take (i := 6) (v := ?_) rfl (by kernel_rfl) (by kernel_rfl) (by kernel_rfl) (by kernel_rfl) (fun _ _ _ h => h) (Or.inl ⟨by rfl, ?_⟩) (by assumption) ?_
              rotate_left 1
              · intro w hSw
                (try dsimp only at hSw)
                go_simp
                all_goals (with_reducible rfl)
              try simp only [Act.put, List.getElem_toArray, List.getElem_cons_zero, List.getElem_cons_succ, List.setIfInBounds_toArray, List.set_cons_zero, List.set_cons_succ]
              refine AnyE.take (i := 7) (v := ?_) rfl (by kernel_rfl) (by kernel_rfl) (by kernel_rfl) (by kernel_rfl) (fun _ _ _ h => h) (Or.inl ⟨by rfl, ?_⟩) (by assumption) ?_
              rotate_left 1
              · intro w hSw
                (try dsimp only at hSw)
                go_simp
                all_goals (with_reducible rfl)
              try simp only [Act.put, List.getElem_toArray, List.getElem_cons_zero, List.getElem_cons_succ, List.setIfInBounds_toArray, List.set_cons_zero, List.set_cons_succ]
              refine AnyE.take (i := 8) (v := ?_) rfl (by kernel_rfl) (by kernel_rfl) (by kernel_rfl) (by kernel_rfl) (fun _ _ _ h => h) (Or.inl ⟨by rfl, ?_⟩) (by assumption) ?_
              rotate_left 1
              · intro w hSw
                (try dsimp only at hSw)
                go_simp
                all_goals (with_reducible rfl)
              try simp only [Act.put, List.getElem_toArray, List.getElem_cons_zero, List.getElem_cons_succ, List.setIfInBounds_toArray, List.set_cons_zero, List.set_cons_succ]
              refine AnyE.take (i := 9) (v := ?_) rfl (by kernel_rfl) (by kernel_rfl) (by kernel_rfl) (by kernel_rfl) (fun _ _ _ h => h) (Or.inl ⟨by rfl, ?_⟩) (by assumption) ?_
              rotate_left 1
              · intro w hSw
                (try dsimp only at hSw)
                go_simp
                all_goals (with_reducible rfl)
              try simp only [Act.put, List.getElem_toArray, List.getElem_cons_zero, List.getElem_cons_succ, List.setIfInBounds_toArray, List.set_cons_zero, List.set_cons_succ]
              refine AnyE.take (i := 10) (v := ?_) rfl (by kernel_rfl) (by kernel_rfl) (by kernel_rfl) (by kernel_rfl) (fun _ _ _ h => h) (Or.inl ⟨by rfl, ?_⟩) (by assumption) ?_
              rotate_left 1
              · intro w hSw
                (try dsimp only at hSw)
                go_simp
                all_goals (with_reducible rfl)
              try simp only [Act.put, List.getElem_toArray, List.getElem_cons_zero, List.getElem_cons_succ, List.setIfInBounds_toArray, List.set_cons_zero, List.set_cons_succ]
              refine AnyE.take (i := 11) (v := ?_) rfl (by kernel_rfl) (by kernel_rfl) (by kernel_rfl) (by kernel_rfl) (fun _ _ _ h => h) (Or.inl ⟨by rfl, ?_⟩) (by assumption) ?_
              rotate_left 1
              · intro w hSw
                (try dsimp only at hSw)
                go_simp
                all_goals (with_reducible rfl)
              try simp only [Act.put, List.getElem_toArray, List.getElem_cons_zero, List.getElem_cons_succ, List.setIfInBounds_toArray, List.set_cons_zero, List.set_cons_succ]
              refine AnyE.take (i := 12) (v := ?_) rfl (by kernel_rfl) (by kernel_rfl) (by kernel_rfl) (by kernel_rfl) (fun _ _ _ h => h) (Or.inl ⟨by rfl, ?_⟩) (by assumption) ?_
              rotate_left 1
              · intro w hSw
                (try dsimp only at hSw)
                go_simp
                all_goals (with_reducible rfl)
              try simp only [Act.put, List.getElem_toArray, List.getElem_cons_zero, List.getElem_cons_succ, List.setIfInBounds_toArray, List.set_cons_zero, List.set_cons_succ]
              refine AnyE.take (i := 13) (v := ?_) rfl (by kernel_rfl) (by kernel_rfl) (by kernel_rfl) (by kernel_rfl) (fun _ _ _ h => h) (Or.inl ⟨by rfl, ?_⟩) (by assumption) ?_
              rotate_left 1
              · intro w hSw
                (try dsimp only at hSw)
                go_simp
                all_goals (with_reducible rfl)
              try simp only [Act.put, List.getElem_toArray, List.getElem_cons_zero, List.getElem_cons_succ, List.setIfInBounds_toArray, List.set_cons_zero, List.set_cons_succ]
              refine AnyE.take (i := 14) (v := ?_) rfl (by kernel_rfl) (by kernel_rfl) (by kernel_rfl) (by kernel_rfl) (fun _ _ _ h => h) (Or.inl ⟨by rfl, ?_⟩) (by assumption) ?_
              rotate_left 1
              · intro w hSw
                (try dsimp only at hSw)
                go_simp
                all_goals (with_reducible rfl)
              try simp only [Act.put, List.getElem_toArray, List.getElem_cons_zero, List.getElem_cons_succ, List.setIfInBounds_toArray, List.set_cons_zero, List.set_cons_succ]
              refine AnyE.take (i := 15) (v := ?_) rfl (by kernel_rfl) (by kernel_rfl) (by kernel_rfl) (by kernel_rfl) (fun _ _ _ h => h) (Or.inl ⟨by rfl, ?_⟩) (by assumption) ?_
              rotate_left 1
              · intro w hSw
                (try dsimp only at hSw)
                go_simp
                all_goals (with_reducible rfl)
              try simp only [Act.put, List.getElem_toArray, List.getElem_cons_zero, List.getElem_cons_succ, List.setIfInBounds_toArray, List.set_cons_zero, List.set_cons_succ]
              refine AnyE.take (i := 16) (v := ?_) rfl (by kernel_rfl) (by kernel_rfl) (by kernel_rfl) (by kernel_rfl) (fun _ _ _ h => h) (Or.inl ⟨by rfl, ?_⟩) (by assumption) ?_
              rotate_left 1
              · intro w hSw
                (try dsimp only at hSw)
                go_simp
                all_goals (with_reducible rfl)
              try simp only [Act.put, List.getElem_toArray, List.getElem_cons_zero, List.getElem_cons_succ, List.setIfInBounds_toArray, List.set_cons_zero, List.set_cons_succ]
              refine AnyE.next (rs := [17]) (by kernel_rfl) (by simp) ?_
              refine AllE.cons rfl (fun K hK => ?_) AllE.nil
              go_simp
              refine hK.out _ _ (by assumption) (fun hHeld => ?_)
              clear hK K
              try simp only [Act.put, List.getElem_toArray, List.getElem_cons_zero, List.getElem_cons_succ, List.setIfInBounds_toArray, List.set_cons_zero, List.set_cons_succ]
              refine AnyE.next (rs := [18]) (by kernel_rfl) (by simp) ?_
              refine AllE.last rfl (fun K hK => ?_)
              go_simp
              refine hK.out _ _ ?_
              clear hK K
              try simp only [Act.put, List.getElem_toArray, List.getElem_cons_zero, List.getElem_cons_succ, List.setIfInBounds_toArray, List.set_cons_zero, List.set_cons_succ]
              refine AnyE.done (by kernel_rfl) ?_ _
              have HX7 := Lib.hid (HX6.out.other (a := ⟨G, m, none⟩) (by show G ≠ wr.heap.size; have := HGN.out; omega) (bv (yb ^^^ tn)))
              have HB7 := Lib.hid (HB6.out.setCell (p := ⟨G, m, none⟩) (by show wr.heap.size ≤ G; have := HGN.out; omega) (bv (yb ^^^ tn)))
              obtain ⟨w7, hw7⟩ : ∃ w7, w7 = (w6.setCell ⟨G, m, none⟩ (bv (yb ^^^ tn))).drew := ⟨_, rfl⟩
              have HX7 := Lib.hid (show Blk w7 wr.heap.size #[(Value.slice x5 Q z5), .int .i64 (LA : Int)] 50 from by rw [hw7]; exact HX7.out)
              have HB7 := Lib.hid (show Below wr.heap.size wr w7 from by rw [hw7]; exact HB7.out.drew)
              have HO7 := Lib.hid (show w7.ownsRow w2.heap.size 5 1 (Value.slice x5 Q z5) Q (bvs ((FB.take Q).set m (yb ^^^ tn))) from by rw [hw7]; exact HST6.out)
              have hxx : Value.int .u8 ((yb.toNat ^^^ tn.toNat : Nat) : Int) = bv (yb ^^^ tn) := by show _ = Value.int .u8 (((yb ^^^ tn).toNat : Nat) : Int); rw [UInt8.toNat_xor]
              have hwe : ∀ u, u = bv (yb ^^^ tn) → (w6.setCell ⟨G, m, none⟩ u).drew = w7 := fun u hu => by rw [hu, hw7]
              first | rw [hwe _ hxx] | rw [hwe _ rfl]
              clear hxx
              clear hw7 hwe cG cGd fG fGd
              have cx7 := HX7.out.cell 0 (v := (Value.slice x5 Q z5)) rfl
              have cx71 := HX7.out.cell 1 (v := .int .i64 (LA : Int)) rfl
              have fx71 := HX7.out.free 1
              have HX9 := Lib.hid (HX7.out.set 1 (.int .i64 (Q : Int)))
              have HB9 := Lib.hid (HB7.out.setCell (p := ⟨wr.heap.size, 1, none⟩) (Nat.le_refl _) (.int .i64 (Q : Int)))
              have HA9 := Lib.hid (HA.out.below HB9.out)
              have HIS := Lib.hid (show IsB (w7.setCell ⟨wr.heap.size, 1, none⟩ (.int .i64 (Q : Int))).drew (Value.slice x5 Q z5) ((FB.take Q).set m (yb ^^^ tn)) from (IsB.own HO7.out (by rw [List.length_set, List.length_take, HFN.out]; omega)).kept (((Kept.refl (fun j => j = wr.heap.size) w7).setCell (p := ⟨wr.heap.size, 1, none⟩) (.inl rfl) _).drew) (fun k hk e => by have h1 := (HO7.out.lt k hk.2).1; rw [e] at h1; omega))
              obtain ⟨w9, hw9⟩ : ∃ w9, w9 = w7.setCell ⟨wr.heap.size, 1, none⟩ (.int .i64 (Q : Int)) := ⟨_, rfl⟩
              go_upto_region 22 with fail
              rw [← hw9] at HX9 HB9 HA9 HIS ⊢
              clear hw9 cx7 cx71 fx71
              obtain ⟨s0, s1, s2, s3⟩ := HF1.out w9.drew HB9.out.drew
              have s4 : ((w9.setCell ⟨F, K * 2, none⟩ (Value.slice x5 Q z5)).drew).cell? ⟨F, K * 2 + 1, none⟩ = some (.int .i64 (LA : Int)) := (World.cell?_setCell_other w9 ⟨F, K * 2, none⟩ ⟨F, K * 2 + 1, none⟩ (Value.slice x5 Q z5) (fun e => by have := congrArg Addr.off e; simp at this)).trans s1
              have s5 : ((w9.setCell ⟨F, K * 2, none⟩ (Value.slice x5 Q z5)).drew).frozen? ⟨F, K * 2 + 1, none⟩ = false := by show (w9.setCell _ _).frozen? _ = false; rw [World.frozen?_setCell]; exact s3
              have HRX := Lib.hid (show Rs w0 g L R (dF d T (fallAll ps d.files (T.take (i + 1)))) _ from by
                rw [HSN.out, HPP.out, show fallF (fat FS K) ⟨kp, tn⟩ = ⟨(FB.take Q).set m (yb ^^^ tn), Q⟩ from by rw [HFI.out, show clampN kp REM = REM from by unfold clampN; omega, hQ', if_pos (by omega), show Q - 1 = m from by omega, ← HYB.out]; congr 2; rw [List.getD_eq_getElem?_getD, List.getD_eq_getElem?_getD, List.getElem?_take, if_pos (by omega)]]
                exact HRS1.out _ _ (rwrite_fin (p' := (⟨(FB.take Q).set m (yb ^^^ tn), Q⟩, (Value.slice x5 Q z5))) HB9.out.drew (HA9.out.below ((Below.refl _ _).drew)) HFV.out HFF.out HIS.out (fun b hb => .inr (by have h1 := (HO7.out.lt b hb.2).1; omega)) hgr hFr (HST.out _ _)))
              clear f0 f1
              refine AnyE.start (S := (fun wx => wx.cell? ⟨g, 4, none⟩ = some L1.fil ∧ wx.cell? ⟨wr.heap.size, 0, none⟩ = some (Value.slice x5 Q z5) ∧ wx.cell? ⟨wr.heap.size, 1, none⟩ = some (.int .i64 (Q : Int)))) 7 (by kernel_rfl) (⟨HA9.out.facts.2.2.2.2.1, HX9.out.cell 0 rfl, HX9.out.cell 1 rfl⟩) (fun hHeld => ?_)
              refine AnyE.take (i := 0) (v := ?_) rfl (by kernel_rfl) (by kernel_rfl) (by kernel_rfl) (by kernel_rfl) (fun _ _ _ h => h) (Or.inl ⟨by rfl, ?_⟩) (by assumption) ?_
              rotate_left 1
              · intro w hSw
                (try dsimp only at hSw)
                go_simp
                all_goals (with_reducible rfl)
              try simp only [Act.put, List.getElem_toArray, List.getElem_cons_zero, List.getElem_cons_succ, List.setIfInBounds_toArray, List.set_cons_zero, List.set_cons_succ]
              refine AnyE.take (i := 1) (v := ?_) rfl (by kernel_rfl) (by kernel_rfl) (by kernel_rfl) (by kernel_rfl) (fun _ _ _ h => h) (Or.inl ⟨by rfl, ?_⟩) (by assumption) ?_
              rotate_left 1
              · intro w hSw
                (try dsimp only at hSw)
                go_simp
                all_goals (with_reducible rfl)
              try simp only [Act.put, List.getElem_toArray, List.getElem_cons_zero, List.getElem_cons_succ, List.setIfInBounds_toArray, List.set_cons_zero, List.set_cons_succ]
              refine AnyE.take (i := 2) (v := ?_) rfl (by kernel_rfl) (by kernel_rfl) (by kernel_rfl) (by kernel_rfl) (fun _ _ _ h => h) (Or.inl ⟨by rfl, ?_⟩) (by assumption) ?_
              rotate_left 1
              · intro w hSw
                (try dsimp only at hSw)
                go_simp
                all_goals (with_reducible rfl)
              try simp only [Act.put, List.getElem_toArray, List.getElem_cons_zero, List.getElem_cons_succ, List.setIfInBounds_toArray, List.set_cons_zero, List.set_cons_succ]
              refine AnyE.take (i := 3) (v := ?_) rfl (by kernel_rfl) (by kernel_rfl) (by kernel_rfl) (by kernel_rfl) (fun _ _ _ h => h) (Or.inl ⟨by rfl, ?_⟩) (by assumption) ?_
              rotate_left 1
              · intro w hSw
                (try dsimp only at hSw)
                go_simp
                all_goals (with_reducible rfl)
              try simp only [Act.put, List.getElem_toArray, List.getElem_cons_zero, List.getElem_cons_succ, List.setIfInBounds_toArray, List.set_cons_zero, List.set_cons_succ]
              refine AnyE.take (i := 4) (v := ?_) rfl (by kernel_rfl) (by kernel_rfl) (by kernel_rfl) (by kernel_rfl) (fun _ _ _ h => h) (Or.inl ⟨by rfl, ?_⟩) (by assumption) ?_
              rotate_left 1
              · intro w hSw
                (try dsimp only at hSw)
                go_simp
                all_goals (with_reducible rfl)
              try simp only [Act.put, List.getElem_toArray, List.getElem_cons_zero, List.getElem_cons_succ, List.setIfInBounds_toArray, List.set_cons_zero, List.set_cons_succ]
              refine AnyE.take (i := 5) (v := ?_) rfl (by kernel_rfl) (by kernel_rfl) (by kernel_rfl) (by kernel_rfl) (fun _ _ _ h => h) (Or.inl ⟨by rfl, ?_⟩) (by assumption) ?_
              rotate_left 1
              · intro w hSw
                (try dsimp only at hSw)
                go_simp
                all_goals (with_reducible rfl)
              try simp only [Act.put, List.getElem_toArray, List.getElem_cons_zero, List.getElem_cons_succ, List.setIfInBounds_toArray, List.set_cons_zero, List.set_cons_succ]
              refine AnyE.next (rs := [6]) (by kernel_rfl) (by simp) ?_
              refine AllE.cons rfl (fun K hK => ?_) AllE.nil
              go_simp
              refine hK.out _ _ (by assumption) (fun hHeld => ?_)
              clear hK K
              try simp only [Act.put, List.getElem_toArray, List.getElem_cons_zero, List.getElem_cons_succ, List.setIfInBounds_toArray, List.set_cons_zero, List.set_cons_succ]
              refine AnyE.next (rs := [7]) (by kernel_rfl) (by simp) ?_
              refine AllE.last rfl (fun K hK => ?_)
              go_simp
              refine hK.out _ _ ?_
              clear hK K
              try simp only [Act.put, List.getElem_toArray, List.getElem_cons_zero, List.getElem_cons_succ, List.setIfInBounds_toArray, List.set_cons_zero, List.set_cons_succ]
              refine AnyE.done (by kernel_rfl) ?_ _
              go_wp2_with fail
              go_roundw
              case rel => exact ⟨i + 1, by omega, by go_num, HRX⟩
              case measure => simp [intOf]; omega
          obtain ⟨C, hC⟩ := Int.eq_ofNat_of_zero_le (show 0 ≤ kp by omega)
          subst hC
          have hCR : ¬ (REM : Int) < (C : Int) := hbig
          have hC0 : ¬ (C : Int) < 0 := hneg
          by_cases hz : C = 0
          · subst hz
            obtain ⟨Q, hQ'⟩ : ∃ Q, LA + (0 : Nat) = Q := ⟨_, rfl⟩
            obtain rfl : Q = LA := by omega
            have hQl : Q ≤ FN := by omega
            have hsl := slice_h_X (P := Try.prog) 1 fx FN fz 37 5 Try.underlying37 Try.sizeU8b Q (by omega)
            have x20 := HX2.out.cell 0 (v := .slice fx FN fz) rfl
            have x21 := HX2.out.cell 1 (v := .int .i64 (Q : Int)) rfl
            have o20 := HO2.out.cell 0 (v := .int .i64 ((0 : Nat) : Int)) rfl
            have hx2 := HX2.out.lt
            have ho2 := HO2.out.lt
            have HXQ := Lib.hid (show IsX wr 1 (.slice fx Q fz) Q (bvs (FB.take Q)) from by
              have h := HXB.out.take (j := Q) hQl
              have e : (bvs FB).take (Q * 1) = bvs (FB.take Q) := by simp [bvs]
              rw [e] at h
              exact h)
            go_wp2_with (at_builtin; refine wpList_append_X (by rfl) _ _ 37 37 rfl (fun _ _ _ => rfl) w2.heap.size 5 ib _ 1 1 Try.underlying37 HI.out HZ0.out HZ1.out HZ2.out rfl (by decide) _ [] 0 rfl (own_litAt w2 w2.heap.size 5 1 w2.heap.size rfl (Nat.le_refl _)) _ Q _ rfl (HXQ.out.mono (HB2.out.alloc HB2.out.size _) (Nat.le_refl _)) (bvs_one _) (by unfold maxLen; omega) (by omega) (by simp) ?_)
            intro v5 w5 hown5 hgr5 hat5
            have hown5 : w5.ownsRow w2.heap.size 5 1 v5 Q (bvs (FB.take Q)) := by simpa using hown5
            obtain ⟨x5, z5, rfl, _, _⟩ := ownsRow_slice hown5
            have hb5 : Below w2.heap.size w2 w5 := ((bel_alloc w2 _).grown hgr5 (by simp) (fun j hj => by have e : some w2.heap.size = some j := hj; have := Option.some.inj e; omega))
            have HO5 := Lib.hid hown5
            have HBW5 := Lib.hid (HB2.out.trans (hb5.mono HB2.out.size))
            have HXX5 := Lib.hid (HX2.out.below hb5 hx2)
            have HOO5 := Lib.hid (HO2.out.below hb5 ho2)
            have fx5 := HXX5.out.free 0
            have cx5 := HXX5.out.cell 0 (v := .slice fx FN fz) rfl
            have cx51 := HXX5.out.cell 1 (v := .int .i64 (Q : Int)) rfl
            have fx51 := HXX5.out.free 1
            have hlen5 := fun W => len_X (P := Try.prog) (IsX.own HO5.out) 37 3 _ Try.underlying37 W
            clear hown5 hgr5 hat5 hb5 x20 x21 o20 hsl
            have HX9 := Lib.hid ((HXX5.out.set 0 (Value.slice x5 Q z5)).set 1 (.int .i64 (Q : Int)))
            have HB9 := Lib.hid ((HBW5.out.setCell (p := ⟨wr.heap.size, 0, none⟩) (Nat.le_refl _) (Value.slice x5 Q z5)).setCell (p := ⟨wr.heap.size, 1, none⟩) (Nat.le_refl _) (.int .i64 (Q : Int)))
            have HA9 := Lib.hid (HA.out.below HB9.out)
            have HIS := Lib.hid (show IsB ((w5.setCell ⟨wr.heap.size, 0, none⟩ (Value.slice x5 Q z5)).setCell ⟨wr.heap.size, 1, none⟩ (.int .i64 (Q : Int))).drew (Value.slice x5 Q z5) (FB.take Q) from (IsB.own HO5.out (by rw [List.length_take, HFN.out]; omega)).kept ((((Kept.refl (fun j => j = wr.heap.size) w5).setCell (p := ⟨wr.heap.size, 0, none⟩) (.inl rfl) _).setCell (p := ⟨wr.heap.size, 1, none⟩) (.inl rfl) _).drew) (fun k hk e => by have h1 := (HO5.out.lt k hk.2).1; rw [e] at h1; omega))
            obtain ⟨w9, hw9⟩ : ∃ w9, w9 = (w5.setCell ⟨wr.heap.size, 0, none⟩ (Value.slice x5 Q z5)).setCell ⟨wr.heap.size, 1, none⟩ (.int .i64 (Q : Int)) := ⟨_, rfl⟩
            go_upto_region 22 with fail
            rw [← hw9] at HX9 HB9 HA9 HIS ⊢
            clear hw9 fx5 cx5 cx51 fx51
            obtain ⟨s0, s1, s2, s3⟩ := HF1.out w9.drew HB9.out.drew
            have s4 : ((w9.setCell ⟨F, K * 2, none⟩ (Value.slice x5 Q z5)).drew).cell? ⟨F, K * 2 + 1, none⟩ = some (.int .i64 (Q : Int)) := (World.cell?_setCell_other w9 ⟨F, K * 2, none⟩ ⟨F, K * 2 + 1, none⟩ (Value.slice x5 Q z5) (fun e => by have := congrArg Addr.off e; simp at this)).trans s1
            have s5 : ((w9.setCell ⟨F, K * 2, none⟩ (Value.slice x5 Q z5)).drew).frozen? ⟨F, K * 2 + 1, none⟩ = false := by show (w9.setCell _ _).frozen? _ = false; rw [World.frozen?_setCell]; exact s3
            have HRX := Lib.hid (show Rs w0 g L R (dF d T (fallAll ps d.files (T.take (i + 1)))) _ from by
              rw [HSN.out, HPP.out, show fallF (fat FS K) ⟨((0 : Nat) : Int), tn⟩ = ⟨FB.take Q, Q⟩ from by rw [HFI.out, show clampN ((0 : Nat) : Int) REM = (0 : Nat) from by unfold clampN; rfl, hQ', if_neg (by omega)]]
              exact HRS1.out _ _ (rwrite_fin (p' := (⟨FB.take Q, Q⟩, (Value.slice x5 Q z5))) HB9.out.drew (HA9.out.below ((Below.refl _ _).drew)) HFV.out HFF.out HIS.out (fun b hb => .inr (by have h1 := (HO5.out.lt b hb.2).1; omega)) hgr hFr (HST.out _ _)))
            clear f0 f1
            refine AnyE.start (S := (fun wx => wx.cell? ⟨g, 4, none⟩ = some L1.fil ∧ wx.cell? ⟨wr.heap.size, 0, none⟩ = some (Value.slice x5 Q z5) ∧ wx.cell? ⟨wr.heap.size, 1, none⟩ = some (.int .i64 (Q : Int)))) 7 (by kernel_rfl) (⟨HA9.out.facts.2.2.2.2.1, HX9.out.cell 0 rfl, HX9.out.cell 1 rfl⟩) (fun hHeld => ?_)
            refine AnyE.take (i := 0) (v := ?_) rfl (by kernel_rfl) (by kernel_rfl) (by kernel_rfl) (by kernel_rfl) (fun _ _ _ h => h) (Or.inl ⟨by rfl, ?_⟩) (by assumption) ?_
            rotate_left 1
            · intro w hSw
              (try dsimp only at hSw)
              go_simp
              all_goals (with_reducible rfl)
            try simp only [Act.put, List.getElem_toArray, List.getElem_cons_zero, List.getElem_cons_succ, List.setIfInBounds_toArray, List.set_cons_zero, List.set_cons_succ]
            refine AnyE.take (i := 1) (v := ?_) rfl (by kernel_rfl) (by kernel_rfl) (by kernel_rfl) (by kernel_rfl) (fun _ _ _ h => h) (Or.inl ⟨by rfl, ?_⟩) (by assumption) ?_
            rotate_left 1
            · intro w hSw
              (try dsimp only at hSw)
              go_simp
              all_goals (with_reducible rfl)
            try simp only [Act.put, List.getElem_toArray, List.getElem_cons_zero, List.getElem_cons_succ, List.setIfInBounds_toArray, List.set_cons_zero, List.set_cons_succ]
            refine AnyE.take (i := 2) (v := ?_) rfl (by kernel_rfl) (by kernel_rfl) (by kernel_rfl) (by kernel_rfl) (fun _ _ _ h => h) (Or.inl ⟨by rfl, ?_⟩) (by assumption) ?_
            rotate_left 1
            · intro w hSw
              (try dsimp only at hSw)
              go_simp
              all_goals (with_reducible rfl)
            try simp only [Act.put, List.getElem_toArray, List.getElem_cons_zero, List.getElem_cons_succ, List.setIfInBounds_toArray, List.set_cons_zero, List.set_cons_succ]
            refine AnyE.take (i := 3) (v := ?_) rfl (by kernel_rfl) (by kernel_rfl) (by kernel_rfl) (by kernel_rfl) (fun _ _ _ h => h) (Or.inl ⟨by rfl, ?_⟩) (by assumption) ?_
            rotate_left 1
            · intro w hSw
              (try dsimp only at hSw)
              go_simp
              all_goals (with_reducible rfl)
            try simp only [Act.put, List.getElem_toArray, List.getElem_cons_zero, List.getElem_cons_succ, List.setIfInBounds_toArray, List.set_cons_zero, List.set_cons_succ]
            refine AnyE.take (i := 4) (v := ?_) rfl (by kernel_rfl) (by kernel_rfl) (by kernel_rfl) (by kernel_rfl) (fun _ _ _ h => h) (Or.inl ⟨by rfl, ?_⟩) (by assumption) ?_
            rotate_left 1
            · intro w hSw
              (try dsimp only at hSw)
              go_simp
              all_goals (with_reducible rfl)
            try simp only [Act.put, List.getElem_toArray, List.getElem_cons_zero, List.getElem_cons_succ, List.setIfInBounds_toArray, List.set_cons_zero, List.set_cons_succ]
            refine AnyE.take (i := 5) (v := ?_) rfl (by kernel_rfl) (by kernel_rfl) (by kernel_rfl) (by kernel_rfl) (fun _ _ _ h => h) (Or.inl ⟨by rfl, ?_⟩) (by assumption) ?_
            rotate_left 1
            · intro w hSw
              (try dsimp only at hSw)
              go_simp
              all_goals (with_reducible rfl)
            try simp only [Act.put, List.getElem_toArray, List.getElem_cons_zero, List.getElem_cons_succ, List.setIfInBounds_toArray, List.set_cons_zero, List.set_cons_succ]
            refine AnyE.next (rs := [6]) (by kernel_rfl) (by simp) ?_
            refine AllE.cons rfl (fun K hK => ?_) AllE.nil
            go_simp
            refine hK.out _ _ (by assumption) (fun hHeld => ?_)
            clear hK K
            try simp only [Act.put, List.getElem_toArray, List.getElem_cons_zero, List.getElem_cons_succ, List.setIfInBounds_toArray, List.set_cons_zero, List.set_cons_succ]
            refine AnyE.next (rs := [7]) (by kernel_rfl) (by simp) ?_
            refine AllE.last rfl (fun K hK => ?_)
            go_simp
            refine hK.out _ _ ?_
            clear hK K
            try simp only [Act.put, List.getElem_toArray, List.getElem_cons_zero, List.getElem_cons_succ, List.setIfInBounds_toArray, List.set_cons_zero, List.set_cons_succ]
            refine AnyE.done (by kernel_rfl) ?_ _
            go_wp2_with fail
            go_roundw
            case rel => exact ⟨i + 1, by omega, by go_num, HRX⟩
            case measure => simp [intOf]; omega
          have hz2 : (0 : Int) < (C : Int) := by omega
          obtain ⟨Q, hQ'⟩ : ∃ Q, LA + C = Q := ⟨_, rfl⟩
          have hQ : (LA : Int) + (C : Int) = (Q : Int) := by omega
          have hQl : Q ≤ FN := by omega
          have hsl := slice_h_X (P := Try.prog) 1 fx FN fz 37 5 Try.underlying37 Try.sizeU8b Q (by omega)
          have x20 := HX2.out.cell 0 (v := .slice fx FN fz) rfl
          have x21 := HX2.out.cell 1 (v := .int .i64 (LA : Int)) rfl
          have o20 := HO2.out.cell 0 (v := .int .i64 (C : Int)) rfl
          have hx2 := HX2.out.lt
          have ho2 := HO2.out.lt
          have HXQ := Lib.hid (show IsX wr 1 (.slice fx Q fz) Q (bvs (FB.take Q)) from by
            have h := HXB.out.take (j := Q) hQl
            have e : (bvs FB).take (Q * 1) = bvs (FB.take Q) := by simp [bvs]
            rw [e] at h
            exact h)
          go_wp2_with (at_builtin; refine wpList_append_X (by rfl) _ _ 37 37 rfl (fun _ _ _ => rfl) w2.heap.size 5 ib _ 1 1 Try.underlying37 HI.out HZ0.out HZ1.out HZ2.out rfl (by decide) _ [] 0 rfl (own_litAt w2 w2.heap.size 5 1 w2.heap.size rfl (Nat.le_refl _)) _ Q _ rfl (HXQ.out.mono (HB2.out.alloc HB2.out.size _) (Nat.le_refl _)) (bvs_one _) (by unfold maxLen; omega) (by omega) (by simp) ?_)
          intro v5 w5 hown5 hgr5 hat5
          have hown5 : w5.ownsRow w2.heap.size 5 1 v5 Q (bvs (FB.take Q)) := by simpa using hown5
          obtain ⟨x5, z5, rfl, _, _⟩ := ownsRow_slice hown5
          have hb5 : Below w2.heap.size w2 w5 := ((bel_alloc w2 _).grown hgr5 (by simp) (fun j hj => by have e : some w2.heap.size = some j := hj; have := Option.some.inj e; omega))
          have HO5 := Lib.hid hown5
          have HBW5 := Lib.hid (HB2.out.trans (hb5.mono HB2.out.size))
          have HXX5 := Lib.hid (HX2.out.below hb5 hx2)
          have HOO5 := Lib.hid (HO2.out.below hb5 ho2)
          have fx5 := HXX5.out.free 0
          have cx5 := HXX5.out.cell 0 (v := .slice fx FN fz) rfl
          have cx51 := HXX5.out.cell 1 (v := .int .i64 (LA : Int)) rfl
          have fx51 := HXX5.out.free 1
          have hlen5 := fun W => len_X (P := Try.prog) (IsX.own HO5.out) 37 3 _ Try.underlying37 W
          clear hown5 hgr5 hat5 hb5 x20 x21 o20 hsl
          obtain ⟨m, hm⟩ : ∃ m, Q = m + 1 := ⟨Q - 1, by omega⟩
          have hm1 : (Q : Int) - 1 = (m : Int) := by omega
          have hmw : IntKind.i64.wrap (m : Int) = (m : Int) := by rw [IntKind.wrap_i64]; omega
          clear hm
          have HO6 := Lib.hid (ownsRow_kept HO5.out ((Kept.refl (fun j => j = wr.heap.size) w5).setCell (p := ⟨wr.heap.size, 0, none⟩) (.inl rfl) (Value.slice x5 Q z5)) (fun k hk e => by have h1 := (HO5.out.lt k hk).1; rw [e] at h1; omega))
          have HX6 := Lib.hid (HXX5.out.set 0 (Value.slice x5 Q z5))
          have HOO6 := Lib.hid (HOO5.out.other (a := ⟨wr.heap.size, 0, none⟩) (by show wr.heap.size ≠ wr.heap.size + 1; omega) (Value.slice x5 Q z5))
          have HB6 := Lib.hid (HBW5.out.setCell (p := ⟨wr.heap.size, 0, none⟩) (Nat.le_refl _) (Value.slice x5 Q z5))
          obtain ⟨w6, hw6⟩ : ∃ w6, w6 = w5.setCell ⟨wr.heap.size, 0, none⟩ (Value.slice x5 Q z5) := ⟨_, rfl⟩
          go_upto_region 20 with fail
          rw [← hw6] at HO6 HX6 HOO6 HB6 ⊢
          clear hw6 fx5 cx5 cx51 fx51
          obtain ⟨G, hG, hidG, hcG, hfG, hstG⟩ := indexAt_own HO6.out 37 _ Try.underlying37 Try.sizeU8b m (by omega)
          rw [Nat.mul_one] at hidG hcG
          have cG := hcG 0 (by decide)
          rw [Nat.add_zero, bvs_get (by rw [List.length_take, HFN.out]; omega)] at cG
          have fG := hfG m
          obtain ⟨yb, hyb⟩ : ∃ yb, (FB.take Q).getD m 0 = yb := ⟨_, rfl⟩
          rw [hyb] at cG
          have hxor : bits .xor .u8 (yb.toNat : Int) (tn.toNat : Int) = (((yb ^^^ tn : UInt8)).toNat : Int) := by rw [u8_xor_nat _ _ yb.toNat_lt tn.toNat_lt, UInt8.toNat_xor]
          have hG2 := (HO6.out.lt G hG)
          have HST6 := Lib.hid (show (w6.setCell ⟨G, m, none⟩ (bv (yb ^^^ tn))).ownsRow w2.heap.size 5 1 (Value.slice x5 Q z5) Q (bvs ((FB.take Q).set m (yb ^^^ tn))) from by have h := hstG m (bv (yb ^^^ tn)); rw [bvs_set] at h; exact h)
          have HYB := Lib.hid hyb
          have HGN := Lib.hid (show wr.heap.size < G ∧ wr.heap.size + 1 < G from by have := HS2.out; omega)
          have cGd : w6.drew.cell? ⟨G, m, none⟩ = some (.int .u8 (yb.toNat : Int)) := cG
          have fGd : w6.drew.frozen? ⟨G, m, none⟩ = false := fG
          clear hcG hfG hstG hyb hG hG2
          refine AnyE.start (S := (fun wx => wx.cell? ⟨wr.heap.size, 0, none⟩ = some (Value.slice x5 Q z5) ∧ wx.cell? ⟨wr.heap.size + 1, 1, none⟩ = some (.int .u8 (tn.toNat : Int)) ∧ wx.cell? ⟨G, m, none⟩ = some (.int .u8 (yb.toNat : Int)))) 18 (by kernel_rfl) (⟨HX6.out.cell 0 rfl, HOO6.out.cell 1 rfl, cGd⟩) (fun hHeld => ?_)
          refine AnyE.take (i := 0) (v := ?_) rfl (by kernel_rfl) (by kernel_rfl) (by kernel_rfl) (by kernel_rfl) (fun _ _ _ h => h) (Or.inl ⟨by rfl, ?_⟩) (by assumption) ?_
          rotate_left 1
          · intro w hSw
            (try dsimp only at hSw)
            go_simp
            all_goals (with_reducible rfl)
          try simp only [Act.put, List.getElem_toArray, List.getElem_cons_zero, List.getElem_cons_succ, List.setIfInBounds_toArray, List.set_cons_zero, List.set_cons_succ]
          refine AnyE.take (i := 1) (v := ?_) rfl (by kernel_rfl) (by kernel_rfl) (by kernel_rfl) (by kernel_rfl) (fun _ _ _ h => h) (Or.inl ⟨by rfl, ?_⟩) (by assumption) ?_
          rotate_left 1
          · intro w hSw
            (try dsimp only at hSw)
            go_simp
            all_goals (with_reducible rfl)
          try simp only [Act.put, List.getElem_toArray, List.getElem_cons_zero, List.getElem_cons_succ, List.setIfInBounds_toArray, List.set_cons_zero, List.set_cons_succ]
          refine AnyE.take (i := 2) (v := ?_) rfl (by kernel_rfl) (by kernel_rfl) (by kernel_rfl) (by kernel_rfl) (fun _ _ _ h => h) (Or.inl ⟨by rfl, ?_⟩) (by assumption) ?_
          rotate_left 1
          · intro w hSw
            (try dsimp only at hSw)
            go_simp
            all_goals (with_reducible rfl)
          try simp only [Act.put, List.getElem_toArray, List.getElem_cons_zero, List.getElem_cons_succ, List.setIfInBounds_toArray, List.set_cons_zero, List.set_cons_succ]
          refine AnyE.take (i := 3) (v := ?_) rfl (by kernel_rfl) (by kernel_rfl) (by kernel_rfl) (by kernel_rfl) (fun _ _ _ h => h) (Or.inl ⟨by rfl, ?_⟩) (by assumption) ?_
          rotate_left 1
          · intro w hSw
            (try dsimp only at hSw)
            go_simp
            all_goals (with_reducible rfl)
          try simp only [Act.put, List.getElem_toArray, List.getElem_cons_zero, List.getElem_cons_succ, List.setIfInBounds_toArray, List.set_cons_zero, List.set_cons_succ]
          refine AnyE.take (i := 4) (v := ?_) rfl (by kernel_rfl) (by kernel_rfl) (by kernel_rfl) (by kernel_rfl) (fun _ _ _ h => h) (Or.inl ⟨by rfl, ?_⟩) (by assumption) ?_
          rotate_left 1
          · intro w hSw
            (try dsimp only at hSw)
            go_simp
            all_goals (with_reducible rfl)
          try simp only [Act.put, List.getElem_toArray, List.getElem_cons_zero, List.getElem_cons_succ, List.setIfInBounds_toArray, List.set_cons_zero, List.set_cons_succ]
          refine AnyE.take (i := 5) (v := ?_) rfl (by kernel_rfl) (by kernel_rfl) (by kernel_rfl) (by kernel_rfl) (fun _ _ _ h => h) (Or.inl ⟨by rfl, ?_⟩) (by assumption) ?_
          rotate_left 1
          · intro w hSw
            (try dsimp only at hSw)
            go_simp
            all_goals (with_reducible rfl)
          try simp only [Act.put, List.getElem_toArray, List.getElem_cons_zero, List.getElem_cons_succ, List.setIfInBounds_toArray, List.set_cons_zero, List.set_cons_succ]
          refine AnyE.take (i := 6) (v := ?_) rfl (by kernel_rfl) (by kernel_rfl) (by kernel_rfl) (by kernel_rfl) (fun _ _ _ h => h) (Or.inl ⟨by rfl, ?_⟩) (by assumption) ?_
          rotate_left 1
          · intro w hSw
            (try dsimp only at hSw)
            go_simp
            all_goals (with_reducible rfl)
          try simp only [Act.put, List.getElem_toArray, List.getElem_cons_zero, List.getElem_cons_succ, List.setIfInBounds_toArray, List.set_cons_zero, List.set_cons_succ]
          refine AnyE.take (i := 7) (v := ?_) rfl (by kernel_rfl) (by kernel_rfl) (by kernel_rfl) (by kernel_rfl) (fun _ _ _ h => h) (Or.inl ⟨by rfl, ?_⟩) (by assumption) ?_
          rotate_left 1
          · intro w hSw
            (try dsimp only at hSw)
            go_simp
            all_goals (with_reducible rfl)
          try simp only [Act.put, List.getElem_toArray, List.getElem_cons_zero, List.getElem_cons_succ, List.setIfInBounds_toArray, List.set_cons_zero, List.set_cons_succ]
          refine AnyE.take (i := 8) (v := ?_) rfl (by kernel_rfl) (by kernel_rfl) (by kernel_rfl) (by kernel_rfl) (fun _ _ _ h => h) (Or.inl ⟨by rfl, ?_⟩) (by assumption) ?_
          rotate_left 1
          · intro w hSw
            (try dsimp only at hSw)
            go_simp
            all_goals (with_reducible rfl)
          try simp only [Act.put, List.getElem_toArray, List.getElem_cons_zero, List.getElem_cons_succ, List.setIfInBounds_toArray, List.set_cons_zero, List.set_cons_succ]
          refine AnyE.take (i := 9) (v := ?_) rfl (by kernel_rfl) (by kernel_rfl) (by kernel_rfl) (by kernel_rfl) (fun _ _ _ h => h) (Or.inl ⟨by rfl, ?_⟩) (by assumption) ?_
          rotate_left 1
          · intro w hSw
            (try dsimp only at hSw)
            go_simp
            all_goals (with_reducible rfl)
          try simp only [Act.put, List.getElem_toArray, List.getElem_cons_zero, List.getElem_cons_succ, List.setIfInBounds_toArray, List.set_cons_zero, List.set_cons_succ]
          refine AnyE.take (i := 10) (v := ?_) rfl (by kernel_rfl) (by kernel_rfl) (by kernel_rfl) (by kernel_rfl) (fun _ _ _ h => h) (Or.inl ⟨by rfl, ?_⟩) (by assumption) ?_
          rotate_left 1
          · intro w hSw
            (try dsimp only at hSw)
            go_simp
            all_goals (with_reducible rfl)
          try simp only [Act.put, List.getElem_toArray, List.getElem_cons_zero, List.getElem_cons_succ, List.setIfInBounds_toArray, List.set_cons_zero, List.set_cons_succ]
          refine AnyE.take (i := 11) (v := ?_) rfl (by kernel_rfl) (by kernel_rfl) (by kernel_rfl) (by kernel_rfl) (fun _ _ _ h => h) (Or.inl ⟨by rfl, ?_⟩) (by assumption) ?_
          rotate_left 1
          · intro w hSw
            (try dsimp only at hSw)
            go_simp
            all_goals (with_reducible rfl)
          try simp only [Act.put, List.getElem_toArray, List.getElem_cons_zero, List.getElem_cons_succ, List.setIfInBounds_toArray, List.set_cons_zero, List.set_cons_succ]
          refine AnyE.take (i := 12) (v := ?_) rfl (by kernel_rfl) (by kernel_rfl) (by kernel_rfl) (by kernel_rfl) (fun _ _ _ h => h) (Or.inl ⟨by rfl, ?_⟩) (by assumption) ?_
          rotate_left 1
          · intro w hSw
            (try dsimp only at hSw)
            go_simp
            all_goals (with_reducible rfl)
          try simp only [Act.put, List.getElem_toArray, List.getElem_cons_zero, List.getElem_cons_succ, List.setIfInBounds_toArray, List.set_cons_zero, List.set_cons_succ]
          refine AnyE.take (i := 13) (v := ?_) rfl (by kernel_rfl) (by kernel_rfl) (by kernel_rfl) (by kernel_rfl) (fun _ _ _ h => h) (Or.inl ⟨by rfl, ?_⟩) (by assumption) ?_
          rotate_left 1
          · intro w hSw
            (try dsimp only at hSw)
            go_simp
            all_goals (with_reducible rfl)
          try simp only [Act.put, List.getElem_toArray, List.getElem_cons_zero, List.getElem_cons_succ, List.setIfInBounds_toArray, List.set_cons_zero, List.set_cons_succ]
          refine AnyE.take (i := 14) (v := ?_) rfl (by kernel_rfl) (by kernel_rfl) (by kernel_rfl) (by kernel_rfl) (fun _ _ _ h => h) (Or.inl ⟨by rfl, ?_⟩) (by assumption) ?_
          rotate_left 1
          · intro w hSw
            (try dsimp only at hSw)
            go_simp
            all_goals (with_reducible rfl)
          try simp only [Act.put, List.getElem_toArray, List.getElem_cons_zero, List.getElem_cons_succ, List.setIfInBounds_toArray, List.set_cons_zero, List.set_cons_succ]
          refine AnyE.take (i := 15) (v := ?_) rfl (by kernel_rfl) (by kernel_rfl) (by kernel_rfl) (by kernel_rfl) (fun _ _ _ h => h) (Or.inl ⟨by rfl, ?_⟩) (by assumption) ?_
          rotate_left 1
          · intro w hSw
            (try dsimp only at hSw)
            go_simp
            all_goals (with_reducible rfl)
          try simp only [Act.put, List.getElem_toArray, List.getElem_cons_zero, List.getElem_cons_succ, List.setIfInBounds_toArray, List.set_cons_zero, List.set_cons_succ]
          refine AnyE.take (i := 16) (v := ?_) rfl (by kernel_rfl) (by kernel_rfl) (by kernel_rfl) (by kernel_rfl) (fun _ _ _ h => h) (Or.inl ⟨by rfl, ?_⟩) (by assumption) ?_
          rotate_left 1
          · intro w hSw
            (try dsimp only at hSw)
            go_simp
            all_goals (with_reducible rfl)
          try simp only [Act.put, List.getElem_toArray, List.getElem_cons_zero, List.getElem_cons_succ, List.setIfInBounds_toArray, List.set_cons_zero, List.set_cons_succ]
          refine AnyE.next (rs := [17]) (by kernel_rfl) (by simp) ?_
          refine AllE.cons rfl (fun K hK => ?_) AllE.nil
          go_simp
          refine hK.out _ _ (by assumption) (fun hHeld => ?_)
          clear hK K
          try simp only [Act.put, List.getElem_toArray, List.getElem_cons_zero, List.getElem_cons_succ, List.setIfInBounds_toArray, List.set_cons_zero, List.set_cons_succ]
          refine AnyE.next (rs := [18]) (by kernel_rfl) (by simp) ?_
          refine AllE.last rfl (fun K hK => ?_)
          go_simp
          refine hK.out _ _ ?_
          clear hK K
          try simp only [Act.put, List.getElem_toArray, List.getElem_cons_zero, List.getElem_cons_succ, List.setIfInBounds_toArray, List.set_cons_zero, List.set_cons_succ]
          refine AnyE.done (by kernel_rfl) ?_ _
          have HX7 := Lib.hid (HX6.out.other (a := ⟨G, m, none⟩) (by show G ≠ wr.heap.size; have := HGN.out; omega) (bv (yb ^^^ tn)))
          have HB7 := Lib.hid (HB6.out.setCell (p := ⟨G, m, none⟩) (by show wr.heap.size ≤ G; have := HGN.out; omega) (bv (yb ^^^ tn)))
          obtain ⟨w7, hw7⟩ : ∃ w7, w7 = (w6.setCell ⟨G, m, none⟩ (bv (yb ^^^ tn))).drew := ⟨_, rfl⟩
          have HX7 := Lib.hid (show Blk w7 wr.heap.size #[(Value.slice x5 Q z5), .int .i64 (LA : Int)] 50 from by rw [hw7]; exact HX7.out)
          have HB7 := Lib.hid (show Below wr.heap.size wr w7 from by rw [hw7]; exact HB7.out.drew)
          have HO7 := Lib.hid (show w7.ownsRow w2.heap.size 5 1 (Value.slice x5 Q z5) Q (bvs ((FB.take Q).set m (yb ^^^ tn))) from by rw [hw7]; exact HST6.out)
          have hxx : Value.int .u8 ((yb.toNat ^^^ tn.toNat : Nat) : Int) = bv (yb ^^^ tn) := by show _ = Value.int .u8 (((yb ^^^ tn).toNat : Nat) : Int); rw [UInt8.toNat_xor]
          have hwe : ∀ u, u = bv (yb ^^^ tn) → (w6.setCell ⟨G, m, none⟩ u).drew = w7 := fun u hu => by rw [hu, hw7]
          first | rw [hwe _ hxx] | rw [hwe _ rfl]
          clear hxx
          clear hw7 hwe cG cGd fG fGd
          have cx7 := HX7.out.cell 0 (v := (Value.slice x5 Q z5)) rfl
          have cx71 := HX7.out.cell 1 (v := .int .i64 (LA : Int)) rfl
          have fx71 := HX7.out.free 1
          have HX9 := Lib.hid (HX7.out.set 1 (.int .i64 (Q : Int)))
          have HB9 := Lib.hid (HB7.out.setCell (p := ⟨wr.heap.size, 1, none⟩) (Nat.le_refl _) (.int .i64 (Q : Int)))
          have HA9 := Lib.hid (HA.out.below HB9.out)
          have HIS := Lib.hid (show IsB (w7.setCell ⟨wr.heap.size, 1, none⟩ (.int .i64 (Q : Int))).drew (Value.slice x5 Q z5) ((FB.take Q).set m (yb ^^^ tn)) from (IsB.own HO7.out (by rw [List.length_set, List.length_take, HFN.out]; omega)).kept (((Kept.refl (fun j => j = wr.heap.size) w7).setCell (p := ⟨wr.heap.size, 1, none⟩) (.inl rfl) _).drew) (fun k hk e => by have h1 := (HO7.out.lt k hk.2).1; rw [e] at h1; omega))
          obtain ⟨w9, hw9⟩ : ∃ w9, w9 = w7.setCell ⟨wr.heap.size, 1, none⟩ (.int .i64 (Q : Int)) := ⟨_, rfl⟩
          go_upto_region 22 with fail
          rw [← hw9] at HX9 HB9 HA9 HIS ⊢
          clear hw9 cx7 cx71 fx71
          obtain ⟨s0, s1, s2, s3⟩ := HF1.out w9.drew HB9.out.drew
          have s4 : ((w9.setCell ⟨F, K * 2, none⟩ (Value.slice x5 Q z5)).drew).cell? ⟨F, K * 2 + 1, none⟩ = some (.int .i64 (LA : Int)) := (World.cell?_setCell_other w9 ⟨F, K * 2, none⟩ ⟨F, K * 2 + 1, none⟩ (Value.slice x5 Q z5) (fun e => by have := congrArg Addr.off e; simp at this)).trans s1
          have s5 : ((w9.setCell ⟨F, K * 2, none⟩ (Value.slice x5 Q z5)).drew).frozen? ⟨F, K * 2 + 1, none⟩ = false := by show (w9.setCell _ _).frozen? _ = false; rw [World.frozen?_setCell]; exact s3
          have HRX := Lib.hid (show Rs w0 g L R (dF d T (fallAll ps d.files (T.take (i + 1)))) _ from by
            rw [HSN.out, HPP.out, show fallF (fat FS K) ⟨(C : Int), tn⟩ = ⟨(FB.take Q).set m (yb ^^^ tn), Q⟩ from by rw [HFI.out, show clampN (C : Int) REM = C from by unfold clampN; rw [Int.toNat_natCast]; omega, hQ', if_pos (by omega), show Q - 1 = m from by omega, ← HYB.out]; congr 2; rw [List.getD_eq_getElem?_getD, List.getD_eq_getElem?_getD, List.getElem?_take, if_pos (by omega)]]
            exact HRS1.out _ _ (rwrite_fin (p' := (⟨(FB.take Q).set m (yb ^^^ tn), Q⟩, (Value.slice x5 Q z5))) HB9.out.drew (HA9.out.below ((Below.refl _ _).drew)) HFV.out HFF.out HIS.out (fun b hb => .inr (by have h1 := (HO7.out.lt b hb.2).1; omega)) hgr hFr (HST.out _ _)))
          clear f0 f1
          refine AnyE.start (S := (fun wx => wx.cell? ⟨g, 4, none⟩ = some L1.fil ∧ wx.cell? ⟨wr.heap.size, 0, none⟩ = some (Value.slice x5 Q z5) ∧ wx.cell? ⟨wr.heap.size, 1, none⟩ = some (.int .i64 (Q : Int)))) 7 (by kernel_rfl) (⟨HA9.out.facts.2.2.2.2.1, HX9.out.cell 0 rfl, HX9.out.cell 1 rfl⟩) (fun hHeld => ?_)
          refine AnyE.take (i := 0) (v := ?_) rfl (by kernel_rfl) (by kernel_rfl) (by kernel_rfl) (by kernel_rfl) (fun _ _ _ h => h) (Or.inl ⟨by rfl, ?_⟩) (by assumption) ?_
          rotate_left 1
          · intro w hSw
            (try dsimp only at hSw)
            go_simp
            all_goals (with_reducible rfl)
          try simp only [Act.put, List.getElem_toArray, List.getElem_cons_zero, List.getElem_cons_succ, List.setIfInBounds_toArray, List.set_cons_zero, List.set_cons_succ]
          refine AnyE.take (i := 1) (v := ?_) rfl (by kernel_rfl) (by kernel_rfl) (by kernel_rfl) (by kernel_rfl) (fun _ _ _ h => h) (Or.inl ⟨by rfl, ?_⟩) (by assumption) ?_
          rotate_left 1
          · intro w hSw
            (try dsimp only at hSw)
            go_simp
            all_goals (with_reducible rfl)
          try simp only [Act.put, List.getElem_toArray, List.getElem_cons_zero, List.getElem_cons_succ, List.setIfInBounds_toArray, List.set_cons_zero, List.set_cons_succ]
          refine AnyE.take (i := 2) (v := ?_) rfl (by kernel_rfl) (by kernel_rfl) (by kernel_rfl) (by kernel_rfl) (fun _ _ _ h => h) (Or.inl ⟨by rfl, ?_⟩) (by assumption) ?_
          rotate_left 1
          · intro w hSw
            (try dsimp only at hSw)
            go_simp
            all_goals (with_reducible rfl)
          try simp only [Act.put, List.getElem_toArray, List.getElem_cons_zero, List.getElem_cons_succ, List.setIfInBounds_toArray, List.set_cons_zero, List.set_cons_succ]
          refine AnyE.take (i := 3) (v := ?_) rfl (by kernel_rfl) (by kernel_rfl) (by kernel_rfl) (by kernel_rfl) (fun _ _ _ h => h) (Or.inl ⟨by rfl, ?_⟩) (by assumption) ?_
          rotate_left 1
          · intro w hSw
            (try dsimp only at hSw)
            go_simp
            all_goals (with_reducible rfl)
          try simp only [Act.put, List.getElem_toArray, List.getElem_cons_zero, List.getElem_cons_succ, List.setIfInBounds_toArray, List.set_cons_zero, List.set_cons_succ]
          refine AnyE.take (i := 4) (v := ?_) rfl (by kernel_rfl) (by kernel_rfl) (by kernel_rfl) (by kernel_rfl) (fun _ _ _ h => h) (Or.inl ⟨by rfl, ?_⟩) (by assumption) ?_
          rotate_left 1
          · intro w hSw
            (try dsimp only at hSw)
            go_simp
            all_goals (with_reducible rfl)
          try simp only [Act.put, List.getElem_toArray, List.getElem_cons_zero, List.getElem_cons_succ, List.setIfInBounds_toArray, List.set_cons_zero, List.set_cons_succ]
          refine AnyE.take (i := 5) (v := ?_) rfl (by kernel_rfl) (by kernel_rfl) (by kernel_rfl) (by kernel_rfl) (fun _ _ _ h => h) (Or.inl ⟨by rfl, ?_⟩) (by assumption) ?_
          rotate_left 1
          · intro w hSw
            (try dsimp only at hSw)
            go_simp
            all_goals (with_reducible rfl)
          try simp only [Act.put, List.getElem_toArray, List.getElem_cons_zero, List.getElem_cons_succ, List.setIfInBounds_toArray, List.set_cons_zero, List.set_cons_succ]
          refine AnyE.next (rs := [6]) (by kernel_rfl) (by simp) ?_
          refine AllE.cons rfl (fun K hK => ?_) AllE.nil
          go_simp
          refine hK.out _ _ (by assumption) (fun hHeld => ?_)
          clear hK K
          try simp only [Act.put, List.getElem_toArray, List.getElem_cons_zero, List.getElem_cons_succ, List.setIfInBounds_toArray, List.set_cons_zero, List.set_cons_succ]
          refine AnyE.next (rs := [7]) (by kernel_rfl) (by simp) ?_
          refine AllE.last rfl (fun K hK => ?_)
          go_simp
          refine hK.out _ _ ?_
          clear hK K
          try simp only [Act.put, List.getElem_toArray, List.getElem_cons_zero, List.getElem_cons_succ, List.setIfInBounds_toArray, List.set_cons_zero, List.set_cons_succ]
          refine AnyE.done (by kernel_rfl) ?_ _
          go_wp2_with fail
          go_roundw
          case rel => exact ⟨i + 1, by omega, by go_num, HRX⟩
          case measure => simp [intOf]; omega
      · obtain rfl : i = NT := by omega
        have hF2 : fallAll ps d.files (T.take i) = fallAll ps d.files T := by rw [List.take_of_length_le (by rw [HNT.out]; exact Nat.le_refl _)]
        rw [hF2] at hA
        obtain ⟨xl, zl, hlas, _, _⟩ := hA.rest.las.slice
        have f1 := hA.box.free 1
        have f3 := hA.box.free 3
        have f5 := hA.box.free 5
        have hA1 := hA.setNow (v := L1.las) (t := T) hA.rest.las (fun b hb => ⟨(hA.rest.rg b (hA.rest.rlas b hb)).1, (hA.rest.rg b (hA.rest.rlas b hb)).2.1⟩)
        have hA2 := hA1.setDee (v := .slice none 0 0) (t := []) (IsX.nil _ _) (fun b hb => absurd rfl hb.1)
        have hA3 := hA2.setArm none
        have hfin : Rs w0 g L R { d with now := T, las := T, deeds := [], files := fallAll ps d.files T, armed := none } (((wr.setCell ⟨g, 1, none⟩ L1.las).setCell ⟨g, 3, none⟩ (.slice none 0 0)).setCell ⟨g, 5, none⟩ (.int .i64 (-1))) :=
          Rs.trans hK hR hF ⟨_, _, hA3, (((Kept.refl _ wr).setCell (p := ⟨g, 1, none⟩) (.inl (.inl rfl)) _).setCell (p := ⟨g, 3, none⟩) (.inl (.inl rfl)) _).setCell (p := ⟨g, 5, none⟩) (.inl (.inl rfl)) _, fun b hb => by
            rcases hb with hb | hb
            · rcases hb with hb | hb
              · exact .inl hb
              · exact .inl (hA.rest.rlas b hb)
            · exact absurd rfl hb.1, fun b hb => .inl hb⟩
        have HFIN := Lib.hid (Rs.below HB0.out hfin)
        obtain ⟨nl, hnl⟩ : ∃ nl, (dF d T (fallAll ps d.files T)).las.length = nl := ⟨_, rfl⟩
        rw [hnl] at hlas
        rw [hlas] at HFIN c2 hll
        clear hfin hA1 hA2 hA3 hA hK hR hF hRs hF2 hlas hnl
        go_wp2
        go_end0
        exact ⟨rfl, HFIN.out⟩

end Go.Proofs.Ytdapdlacpefbdaa
