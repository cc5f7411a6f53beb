/- Package net by contracts: Cut. -/
import Derived.Test.YtofhbnnheadmlaaNv
import Derived.Test.YtofhbnnheadmlaaOrdE
set_option linter.unusedVariables false
set_option linter.unusedSimpArgs false
namespace Go.Proofs.Ytofhbnnheadmlaa
open Go.RowKit Go.Cor

theorem eql_map15 (W : World) (p : Option Nat) : (binOp .eql 64 (.map p) (.map none)).run Try.prog W = .ok (.bool p.isNone) W := by
  have h := Try.underlying64
  have h2 : ∀ d : Nat, (Op.equalIn (d + 1) 64 (.map p) (.map none)).run Try.prog W = .ok p.isNone W := fun d => by
    cases p <;> simp [Op.equalIn, run_underlying h]
  simp only [binOp]
  simp [Op.equal, Op.maxDepth, h2 9999]
theorem kept_of_turned {w w' : World} {b : Nat} (h : w.mapTurned w' b) (S : Nat → Prop) (hS : S b) : Kept S w w' :=
  (Kept.refl S w).grown h.grown (fun k e => by cases e; exact .inl hS)
theorem CutsAt.drop {w : World} {mv : Value} {c : List (Int × Int)} {K : Nat} (h : CutsAt w mv c K) {a b : Int} (ha : wfI a) (hb : wfI b) :
    ∃ w', (∀ ty, (Builtin.delete_ #[64, 77] ty #[mv, (.agg #[.int .i64 (lo2 a b), .int .i64 (hi2 a b)])]).run Try.prog w = .ok (.tuple #[]) w') ∧ CutsAt w' mv (cutP c a b false) K ∧ Kept (fun k => mv = .map (some k)) w w' := by
  rcases h with ⟨rfl, h⟩ | ⟨g, D, rfl, h, hD⟩
  · refine ⟨w, fun ty => Go.Maps.drop_nil Try.lawPr Try.underlying64 (keyOf_2 ha hb) ty, .inl ⟨rfl, fun x y hx hy => ?_⟩, Kept.refl _ _⟩
    rw [apart_del]
    split
    · rfl
    · exact h x y hx hy
  · obtain ⟨w', h1, h2, h3⟩ := h.drop Try.lawPr Try.underlying64 (keyOf_2 ha hb) 0
    exact ⟨w', fun ty => h1, .inr ⟨g, _, rfl, h2, hD.del ha hb⟩, kept_of_turned h3 _ rfl⟩
theorem CutsAt.store {w : World} {g : Nat} {c : List (Int × Int)} {K : Nat} (h : CutsAt w (.map (some g)) c K) (hK : K < maxLen) {a b : Int} (ha : wfI a) (hb : wfI b) :
    ∃ w', (Instr.mapUpdate 64 (.map (some g)) (.agg #[.int .i64 (lo2 a b), .int .i64 (hi2 a b)]) (.agg #[])).run Try.prog w = .ok () w' ∧ CutsAt w' (.map (some g)) (cutP c a b true) (K + 1) ∧ Kept (fun k => (.map (some g) : Value) = .map (some k)) w w' := by
  rcases h with ⟨h, _⟩ | ⟨g', D, e, h, hD⟩
  · cases h
  · cases e
    obtain ⟨w', h1, h2, h3⟩ := h.store Try.lawPr Try.underlying64 hK (keyOf_2 ha hb) (val := .agg #[]) (d := .agg []) (ps := []) unitElem_mk
    exact ⟨w', h1, .inr ⟨g, _, rfl, h2, hD.put ha hb _⟩, kept_of_turned h3 _ rfl⟩
theorem NtAt.cutted {g : Nat} {pv : Value} {ps : List (Msg × Value)} {mv : Value} {c : List (Int × Int)} {K : Nat} {w w' : World} {c' : List (Int × Int)} {K' : Nat} (h : NtAt w g pv ps mv c K) (hk : Kept (fun k => mv = .map (some k)) w w') (hc : CutsAt w' mv c' K') : NtAt w' g pv ps mv c' K' :=
  ⟨h.nblk.kept hk (fun e => (h.nmap g e).1 rfl), ownsRow_kept h.nrow hk (fun k e e2 => (h.nmap k e2).2 e), h.nap, fun x hx => ⟨(h.npk x hx).1.kept hk (fun k e e2 => ((h.npk x hx).2.2 k e).2.2 e2), (h.npk x hx).2⟩, hc, h.nmap⟩
theorem NtAt.mapped {g : Nat} {pv : Value} {ps : List (Msg × Value)} {c : List (Int × Int)} {K : Nat} {w : World} (h : NtAt w g pv ps (.map none) c K) :
    NtAt ((w.setCell ⟨g, 1, none⟩ (.map (some w.heap.size))).alloc (.map #[] 0)) g pv ps (.map (some w.heap.size)) c K ∧ Kept (fun k => k = g) w ((w.setCell ⟨g, 1, none⟩ (.map (some w.heap.size))).alloc (.map #[] 0)) := by
  have hg := h.nblk.lt
  have hk : Kept (fun k => k = g) w ((w.setCell ⟨g, 1, none⟩ (.map (some w.heap.size))).alloc (.map #[] 0)) := ((Kept.refl (fun k => k = g) w).setCell (p := ⟨g, 1, none⟩) (.inl rfl) _).alloc _
  have hb0 := h.nblk.set 1 (.map (some w.heap.size))
  simp at hb0
  have hb := hb0.alloc (.map #[] 0)
  refine ⟨⟨hb, ownsRow_kept h.nrow hk (fun k e e2 => h.nap (e2 ▸ e)), h.nap, fun x hx => ⟨(h.npk x hx).1.kept hk (fun k e e2 => ((h.npk x hx).2.2 k e).1 e2), (h.npk x hx).2.1, fun k e => ⟨((h.npk x hx).2.2 k e).1, ((h.npk x hx).2.2 k e).2.1, fun e2 => ?_⟩⟩, .inr ⟨w.heap.size, .map [], rfl, ?_, ?_⟩, fun b e => ?_⟩, hk⟩
  · cases e2
    have := (h.npk x hx).1.lies_lt e
    omega
  · have h1 := World.ownsMap_made (H := Unit) (w.setCell ⟨g, 1, none⟩ (.map (some w.heap.size))) Try.prog 77 unitElem
    rw [show (w.setCell ⟨g, 1, none⟩ (.map (some w.heap.size))).heap.size = w.heap.size by simp [World.setCell]] at h1
    exact h1.mono (Nat.zero_le _)
  · rcases h.ncut with ⟨_, h2⟩ | ⟨_, _, e, _⟩
    · exact CutsD.empty h2
    · cases e
  · cases e
    refine ⟨by omega, fun e2 => ?_⟩
    have := (h.nrow.lt _ e2).2
    omega
theorem ncut_nil (a b : Int) (q : Bool) (w : World) :
    Calls Try.prog 15 #[.pointer none, .int .i64 a, .int .i64 b, .bool q] w fun e w' => e = .returned (err 15) ∧ w = w' := by
  go_enter Try.func15, Try.ntmps15
  go_wp2
  go_ret
  exact ⟨rfl, rfl⟩
theorem ncut_bad (g : Nat) (a b : Int) (q : Bool) (w : World) (h : ¬ (placeB a = true ∧ placeB b = true ∧ a ≠ b)) :
    Calls Try.prog 15 #[.pointer (some ⟨g, 0, none⟩), .int .i64 a, .int .i64 b, .bool q] w fun e w' => e = .returned (err 1) ∧ w = w' := by
  have HP1 := Lib.hid (fun wx => nplace_any a wx)
  have HP2 := Lib.hid (fun wx => nplace_any b wx)
  cases h1 : placeB a with
  | false =>
    rw [h1] at HP1
    clear h h1
    go_enter Try.func15, Try.ntmps15
    go_wp2_with fail
    refine (HP1.out _).mono ?_
    rintro e w1 ⟨rfl, rfl⟩
    go_wp2
    go_ret
    exact ⟨rfl, rfl⟩
  | true =>
    cases h2 : placeB b with
    | false =>
      rw [h1] at HP1
      rw [h2] at HP2
      clear h h1 h2
      go_enter Try.func15, Try.ntmps15
      go_wp2_with fail
      refine (HP1.out _).mono ?_
      rintro e w1 ⟨rfl, rfl⟩
      go_wp2_with fail
      refine (HP2.out _).mono ?_
      rintro e w1 ⟨rfl, rfl⟩
      go_wp2
      go_ret
      exact ⟨rfl, rfl⟩
    | true =>
      have h3 : a = b := Decidable.not_not.1 fun h4 => h ⟨h1, h2, h4⟩
      rw [h1] at HP1
      rw [h2] at HP2
      subst h3
      clear h h1 h2
      go_enter Try.func15, Try.ntmps15
      go_wp2_with fail
      refine (HP1.out _).mono ?_
      rintro e w1 ⟨rfl, rfl⟩
      go_wp2_with fail
      refine (HP2.out _).mono ?_
      rintro e w1 ⟨rfl, rfl⟩
      go_wp2
      go_ret
      exact ⟨rfl, rfl⟩
set_option maxRecDepth 100000 in
set_option maxHeartbeats 1000000 in
theorem ncut_join {g : Nat} {pv : Value} {ps : List (Msg × Value)} {mv : Value} {c : List (Int × Int)} {K : Nat} (a b : Int) (w : World) (h : NtAt w g pv ps mv c K) (ha : wfI a) (hb : wfI b) (pa : placeB a = true) (pb : placeB b = true) (hab : a ≠ b) :
    Calls Try.prog 15 #[.pointer (some ⟨g, 0, none⟩), .int .i64 a, .int .i64 b, .bool false] w fun e w' => e = .returned .nilIface ∧ ∃ wa, Below w.heap.size w wa ∧ CutsAt w' mv (cutP c a b false) K ∧ Kept (fun k => mv = .map (some k)) wa w' := by
  have HP1 := Lib.hid (fun wx => nplace_any a wx)
  have HP2 := Lib.hid (fun wx => nplace_any b wx)
  have k1 : w.cell? ⟨g, 1, none⟩ = some mv := h.nblk.cell 1 rfl
  have HN := Lib.hid (fun (wx : World) (hb : Below w.heap.size w wx) => h.below hb (Nat.le_refl _))
  have HG := Lib.hid h.nblk.lt
  have kab : (a == b) = false := beq_eq_false_iff_ne.2 hab
  rw [pa] at HP1
  rw [pb] at HP2
  have HD := Lib.hid (fun (wx : World) (hx : Below w.heap.size w wx) => (HN.out wx hx).ncut.drop ha hb)
  have HM := Lib.hid h.nmap
  have S0 : w.drew.cell? ⟨g, 1, none⟩ = some mv := k1
  clear h ha hb pa pb hab
  go_enter Try.func15, Try.ntmps15
  go_wp2_with fail
  refine (HP1.out _).mono ?_
  rintro e w1 ⟨rfl, rfl⟩
  go_wp2_with fail
  refine (HP2.out _).mono ?_
  rintro e w1 ⟨rfl, rfl⟩
  go_upto_region 6 with fail
  go_region_held3 (fun wx => wx.cell? ⟨g, 1, none⟩ = some mv) (first | exact S0 | assumption) (first | (go_at_call 31; refine (nof_any a b _).mono ?_; rintro e wo ⟨rfl, hbo⟩; have HBO := Lib.hid ((Below.refl w.heap.size w).drew.trans hbo); obtain ⟨wd, hdel, hcd, hkd⟩ := HD.out wo HBO.out; have HCD := Lib.hid (And.intro hcd hkd); have S1 : wo.cell? ⟨g, 1, none⟩ = some mv := (HN.out wo HBO.out).nblk.cell 1 rfl; have S2 : wd.cell? ⟨g, 1, none⟩ = some mv := hkd.cell S1 (fun e => (HM.out g e).1 rfl); clear hcd hkd hbo))
  clear S1 S2
  go_wp2_with fail
  go_ret
  exact ⟨rfl, wo, HBO.out, HCD.out.1, HCD.out.2⟩
set_option maxRecDepth 100000 in
set_option maxHeartbeats 1000000 in
theorem ncut_some {g : Nat} {pv : Value} {ps : List (Msg × Value)} {M : Nat} {c : List (Int × Int)} {K : Nat} (a b : Int) (wz : World) (h : NtAt wz g pv ps (.map (some M)) c K) (hK : K < maxLen) (ha : wfI a) (hb : wfI b) (pa : placeB a = true) (pb : placeB b = true) (hab : a ≠ b) :
    Calls Try.prog 15 #[.pointer (some ⟨g, 0, none⟩), .int .i64 a, .int .i64 b, .bool true] wz fun e w' => e = .returned .nilIface ∧ ∃ wa, Below wz.heap.size wz wa ∧ CutsAt w' (.map (some M)) (cutP c a b true) (K + 1) ∧ Kept (fun k => (.map (some M) : Value) = .map (some k)) wa w' := by
  have HP1 := Lib.hid (fun wx => nplace_any a wx)
  have HP2 := Lib.hid (fun wx => nplace_any b wx)
  have k1 : wz.cell? ⟨g, 1, none⟩ = some (.map (some M)) := h.nblk.cell 1 rfl
  have HN := Lib.hid (fun (wx : World) (hb : Below wz.heap.size wz wx) => h.below hb (Nat.le_refl _))
  have kab : (a == b) = false := beq_eq_false_iff_ne.2 hab
  rw [pa] at HP1
  rw [pb] at HP2
  have HD := Lib.hid (fun (wx : World) (hx : Below wz.heap.size wz wx) => (HN.out wx hx).ncut.store hK ha hb)
  have HM := Lib.hid h.nmap
  have S0 : wz.drew.cell? ⟨g, 1, none⟩ = some (.map (some M)) := k1
  have hmq := fun W => eql_map15 W (some M)
  clear h ha hb pa pb hab hK
  go_enter Try.func15, Try.ntmps15
  go_wp2_with fail
  refine (HP1.out _).mono ?_
  rintro e w1 ⟨rfl, rfl⟩
  go_wp2_with fail
  refine (HP2.out _).mono ?_
  rintro e w1 ⟨rfl, rfl⟩
  go_upto_region 10 with fail
  go_region_held3 (fun wx => wx.cell? ⟨g, 1, none⟩ = some (.map (some M))) (first | exact S0 | assumption) (first | (go_at_call 31; refine (nof_any a b _).mono ?_; rintro e wo ⟨rfl, hbo⟩; have HBO := Lib.hid ((Below.refl wz.heap.size wz).drew.trans hbo); obtain ⟨wd, hdel, hcd, hkd⟩ := HD.out wo HBO.out; have HCD := Lib.hid (And.intro hcd hkd); have S1 : wo.cell? ⟨g, 1, none⟩ = some (.map (some M)) := (HN.out wo HBO.out).nblk.cell 1 rfl; have S2 : wd.cell? ⟨g, 1, none⟩ = some (.map (some M)) := hkd.cell S1 (fun e => (HM.out g e).1 rfl); clear hcd hkd hbo))
  clear S1 S2
  go_wp2_with fail
  go_ret
  exact ⟨rfl, wo, HBO.out, HCD.out.1, HCD.out.2⟩
set_option maxRecDepth 100000 in
set_option maxHeartbeats 1000000 in
theorem ncut_new {g : Nat} {pv : Value} {ps : List (Msg × Value)} {c : List (Int × Int)} {K : Nat} (a b : Int) (w : World) (h : NtAt w g pv ps (.map none) c K) (hK : K < maxLen) (ha : wfI a) (hb : wfI b) (pa : placeB a = true) (pb : placeB b = true) (hab : a ≠ b) :
    Calls Try.prog 15 #[.pointer (some ⟨g, 0, none⟩), .int .i64 a, .int .i64 b, .bool true] w fun e w' => e = .returned .nilIface ∧ ∃ wz wa, NtAt wz g pv ps (.map (some w.heap.size)) c K ∧ Kept (fun k => k = g) w wz ∧ Below wz.heap.size wz wa ∧ CutsAt w' (.map (some w.heap.size)) (cutP c a b true) (K + 1) ∧ Kept (fun k => (.map (some w.heap.size) : Value) = .map (some k)) wa w' := by
  have HP1 := Lib.hid (fun wx => nplace_any a wx)
  have HP2 := Lib.hid (fun wx => nplace_any b wx)
  have c1 : w.cell? ⟨g, 1, none⟩ = some (.map none) := h.nblk.cell 1 rfl
  have cf := fun j => h.nblk.free j
  have c2 : (w.alloc (.map #[] 0)).cell? ⟨g, 1, none⟩ = some (.map none) := (h.nblk.alloc (.map #[] 0)).cell 1 rfl
  have cf2 := fun j => (h.nblk.alloc (.map #[] 0)).free j
  have hgl := h.nblk.lt
  have kab : (a == b) = false := beq_eq_false_iff_ne.2 hab
  rw [pa] at HP1
  rw [pb] at HP2
  obtain ⟨hn, hkn⟩ := h.mapped
  obtain ⟨M, hM⟩ : ∃ M, w.heap.size = M := ⟨_, rfl⟩
  rw [hM] at hn hkn ⊢
  obtain ⟨wz, hwz⟩ : ∃ z, (w.setCell ⟨g, 1, none⟩ (.map (some M))).alloc (.map #[] 0) = z := ⟨_, rfl⟩
  rw [hwz] at hn hkn
  have HWZ := Lib.hid hwz
  have HMM := Lib.hid hM
  have HNZ := Lib.hid (And.intro hn hkn)
  have HN := Lib.hid (fun (wx : World) (hb : Below wz.heap.size wz wx) => hn.below hb (Nat.le_refl _))
  have HD := Lib.hid (fun (wx : World) (hx : Below wz.heap.size wz wx) => (HN.out wx hx).ncut.store hK ha hb)
  have HM := Lib.hid hn.nmap
  have k1 : wz.cell? ⟨g, 1, none⟩ = some (.map (some M)) := hn.nblk.cell 1 rfl
  have S0 : wz.drew.cell? ⟨g, 1, none⟩ = some (.map (some M)) := k1
  have hmq := fun W => eql_map15 W none
  have hmm := @run_makeMap Try.prog
  clear h ha hb pa pb hab hK hn hkn hwz hM
  go_enter Try.func15, Try.ntmps15
  go_wp2_with fail
  refine (HP1.out _).mono ?_
  rintro e w1 ⟨rfl, rfl⟩
  go_wp2_with fail
  refine (HP2.out _).mono ?_
  rintro e w1 ⟨rfl, rfl⟩
  go_upto_region 10 with fail
  (try rw [HMM.out])
  rw [HWZ.out]
  clear c1 cf c2 cf2 hmq hmm
  go_region_held3 (fun wx => wx.cell? ⟨g, 1, none⟩ = some (.map (some M))) (first | exact S0 | assumption) (first | (go_at_call 31; refine (nof_any a b _).mono ?_; rintro e wo ⟨rfl, hbo⟩; have HBO := Lib.hid ((Below.refl wz.heap.size wz).drew.trans hbo); obtain ⟨wd, hdel, hcd, hkd⟩ := HD.out wo HBO.out; have HCD := Lib.hid (And.intro hcd hkd); have S1 : wo.cell? ⟨g, 1, none⟩ = some (.map (some M)) := (HN.out wo HBO.out).nblk.cell 1 rfl; have S2 : wd.cell? ⟨g, 1, none⟩ = some (.map (some M)) := hkd.cell S1 (fun e => (HM.out g e).1 rfl); clear hcd hkd hbo))
  clear S1 S2
  go_wp2_with fail
  go_ret
  exact ⟨rfl, wz, wo, HNZ.out.1, HNZ.out.2, HBO.out, HCD.out.1, HCD.out.2⟩
theorem Nt.mono {w : World} {B g : Nat} {S : Nat → Prop} {n : NetP} {K : Nat} {K' : Nat} (h : Nt w B g S n K) (hK : K ≤ K') : Nt w B g S n K' := by
  obtain ⟨pv, ps, mv, hA, hl, hgd, hS1, hS2⟩ := h
  exact ⟨pv, ps, mv, ⟨hA.nblk, hA.nrow, hA.nap, hA.npk, hA.ncut.mono hK, hA.nmap⟩, hl, hgd, hS1, hS2⟩
theorem NtT.mono {w w' : World} {B g : Nat} {S : Nat → Prop} {n : NetP} {K : Nat} {K' : Nat} (h : NtT w B g S n K w') (hK : K ≤ K') : NtT w B g S n K' w' := by
  obtain ⟨S', h1, h2, h3⟩ := h
  exact ⟨S', h1.mono hK, h2, h3⟩
theorem cutK_bad {a b : Int} (h : ¬ (placeB a = true ∧ placeB b = true ∧ a ≠ b)) : cutK a b = 1 := by
  unfold cutK
  rw [if_neg]
  rintro ⟨h1, h2, h3, h4, h5⟩
  exact h ⟨decide_eq_true ⟨h1, h2⟩, decide_eq_true ⟨h3, h4⟩, h5⟩
theorem cutK_good {a b : Int} (h : placeB a = true ∧ placeB b = true ∧ a ≠ b) : cutK a b = 0 := by
  unfold cutK
  have h1 := of_decide_eq_true (show decide _ = true from h.1)
  have h2 := of_decide_eq_true (show decide _ = true from h.2.1)
  rw [if_pos ⟨h1.1, h1.2, h2.1, h2.2, h.2.2⟩]
theorem ncut_any {B g : Nat} {S : Nat → Prop} {n : NetP} {K : Nat} (a b : Int) (q : Bool) (w : World) (h : Nt w B g S n K) (hK : K < maxLen) (ha : wfI a) (hb : wfI b) :
    Calls Try.prog 15 #[.pointer (some ⟨g, 0, none⟩), .int .i64 a, .int .i64 b, .bool q] w fun e w' => e = .returned (cerr (cutK a b)) ∧ NtT w B g S (cutN n a b q) (K + 1) w' := by
  by_cases hg : placeB a = true ∧ placeB b = true ∧ a ≠ b
  · have hk := cutK_good hg
    have hN : cutN n a b q = { n with c := cutP n.c a b q } := by unfold cutN; rw [if_pos hk]
    rw [hk, hN, cerr_0]
    obtain ⟨pv, ps, mv, hA, hl, hgd, hS1, hS2⟩ := id h
    have hgd' : ({ n with c := cutP n.c a b q } : NetP).good := hgd
    cases q with
    | false =>
      refine (ncut_join a b w hA ha hb hg.1 hg.2.1 hg.2.2).mono ?_
      rintro e w' ⟨rfl, wa, h1, h2, h3⟩
      have h4 := (hA.below h1 (Nat.le_refl _)).cutted h3 (h2.mono (Nat.le_succ K))
      exact ⟨rfl, NtT.made (n' := { n with c := cutP n.c a b false }) hA hS1 hS2 h4 hl hgd' (fun k hk => .inl (hS1 k hk)) ((Kept.of_below (S := S) h1 (Nat.le_refl _)).trans h3 (fun k e _ => hS1 k (.inr (.inr (.inl e)))))⟩
    | true =>
      have hmv : mv = .map none ∨ ∃ M, mv = .map (some M) := by
        rcases hA.ncut with ⟨e, _⟩ | ⟨M, _, e, _⟩
        · exact .inl e
        · exact .inr ⟨M, e⟩
      rcases hmv with rfl | ⟨M, rfl⟩
      · refine (ncut_new a b w hA hK ha hb hg.1 hg.2.1 hg.2.2).mono ?_
        rintro e w' ⟨rfl, wz, wa, h0, h00, h1, h2, h3⟩
        have h4 := (h0.below h1 (Nat.le_refl _)).cutted h3 h2
        have hgS := hS1 g (.inl rfl)
        refine ⟨rfl, NtT.made (n' := { n with c := cutP n.c a b true }) hA hS1 hS2 h4 hl hgd' (fun k hk => ?_) (((Kept.mono h00 (T := S) (fun k _ e => e ▸ hgS)).trans (Kept.of_below (S := S) h1 (Nat.le_refl _)) (fun _ h _ => h)).trans h3 (fun k e hk => ?_))⟩
        · rcases hk with hk | hk | hk | hk
          · exact .inl (hS1 k (.inl hk))
          · exact .inl (hS1 k (.inr (.inl hk)))
          · cases hk; exact .inr (Nat.le_refl _)
          · exact .inl (hS1 k (.inr (.inr (.inr hk))))
        · cases e; omega
      · refine (ncut_some a b w hA hK ha hb hg.1 hg.2.1 hg.2.2).mono ?_
        rintro e w' ⟨rfl, wa, h1, h2, h3⟩
        have h4 := (hA.below h1 (Nat.le_refl _)).cutted h3 h2
        exact ⟨rfl, NtT.made (n' := { n with c := cutP n.c a b true }) hA hS1 hS2 h4 hl hgd' (fun k hk => .inl (hS1 k hk)) ((Kept.of_below (S := S) h1 (Nat.le_refl _)).trans h3 (fun k e _ => hS1 k (.inr (.inr (.inl e)))))⟩
  · have hk := cutK_bad hg
    have hN : cutN n a b q = n := by unfold cutN; rw [if_neg (by omega)]
    rw [hk, hN, cerr_pos (by decide)]
    refine (ncut_bad g a b q w hg).mono ?_
    rintro e w' ⟨rfl, rfl⟩
    exact ⟨rfl, (NtT.same h (Below.refl _ _)).mono (Nat.le_succ K)⟩
theorem napart_any {B g : Nat} {S : Nat → Prop} {n : NetP} {K : Nat} (a b : Int) (w : World) (h : Nt w B g S n K) (ha : wfI a) (hb : wfI b) :
    Calls Try.prog 16 #[.pointer (some ⟨g, 0, none⟩), .int .i64 a, .int .i64 b] w fun e w' => e = .returned (.bool (apartP n.c a b)) ∧ Below w.heap.size w w' := by
  obtain ⟨pv, ps, mv, hA, hl, hgd, hS1, hS2⟩ := h
  exact napart_at a b w hA ha hb
theorem nlen_any {B g : Nat} {S : Nat → Prop} {n : NetP} {K : Nat} (w : World) (h : Nt w B g S n K) :
    Calls Try.prog 21 #[.pointer (some ⟨g, 0, none⟩)] w fun e w' => e = .returned (.int .i64 (n.l.length : Int)) ∧ w = w' := by
  obtain ⟨pv, ps, mv, hA, hl, hgd, hS1, hS2⟩ := h
  rw [hl, List.length_map]
  exact nlen_at w hA
theorem nnew_nt (w : World) :
    Calls Try.prog 8 #[] w fun e w' => e = .returned (.pointer (some ⟨w.heap.size, 0, none⟩)) ∧ Nt w' w.heap.size w.heap.size (fun k => k = w.heap.size) ⟨[], []⟩ 0 ∧ Below w.heap.size w w' := by
  refine (nnew_any w).mono ?_
  rintro e w' ⟨rfl, h1, h2⟩
  refine ⟨rfl, ⟨_, _, _, h1, rfl, ⟨Nat.zero_le _, fun m hm => by cases hm⟩, fun k hk => ?_, fun k hk => ⟨Nat.le_of_eq hk.symm, hk ▸ h1.nblk.lt⟩⟩, h2⟩
  rcases hk with hk | hk | hk | ⟨x, hx, _⟩
  · exact hk
  · cases hk
  · cases hk
  · cases hx

end Go.Proofs.Ytofhbnnheadmlaa
