/- Package corncriblaw20: TwinPlays. -/
import Derived.Test.YtlaighghagcjjaaTo
import Derived.Test.YtlaighghagcjjaaTs
import Derived.Test.YtlaighghagcjjaaRn20
namespace Go.Proofs.Ytlaighghagcjjaa
open Go.RowKit Go.Cor
set_option linter.unusedVariables false
set_option linter.unusedSimpArgs false

def prc (va vb : Value) (q : Pr) : Array Value := #[va, vb, .bool q.u0, .bool q.u1, .int .i64 (sn q.ld : Int), .int .i64 (q.tm : Int), .int .i64 (q.st : Int)]
/-- The program's pair p, the document's pair q in the law's own box G. -/
structure Pd (w wr : World) (g : Nat) (S : Nat → Prop) (p q : Pr) (K G : Nat) (va vb : Value) : Prop where
  th : Th w wr g S p K
  pv : Pv wr va vb q
  oa : Off S va q.a.length
  ob : Off S vb q.b.length
  ga : ¬ liesX va q.a.length G
  gb : ¬ liesX vb q.b.length G
  box : Blk wr G (prc va vb q) 29
  gs : ¬ S G
  gw : w.heap.size ≤ G
section
variable {w wr w' : World} {g : Nat} {S : Nat → Prop} {p q : Pr} {K G : Nat} {va vb : Value}
theorem Pd.below (h : Pd w wr g S p q K G va vb) (hb : Below wr.heap.size wr w') : Pd w w' g S p q K G va vb :=
  ⟨h.th.below hb, ⟨h.pv.a.mono hb (Nat.le_refl _), h.pv.b.mono hb (Nat.le_refl _)⟩, h.oa, h.ob, h.ga, h.gb, h.box.below hb h.box.lt, h.gs, h.gw⟩
/-- The program's call. -/
theorem Pd.call {S' : Nat → Prop} {K' : Nat} {p' : Pr} (h : Pd w wr g S p q K G va vb) (ht : Th w w' g S' p' K') (hS : ∀ k, S' k → S k ∨ wr.heap.size ≤ k) (hk : Kept S wr w') : Pd w w' g S' p' q K' G va vb :=
  ⟨ht, ⟨h.pv.a.kept hk h.oa, h.pv.b.kept hk h.ob⟩, h.oa.call h.pv.a (by decide) hS, h.ob.call h.pv.b (by decide) hS, h.ga, h.gb, h.box.kept hk h.gs, fun hs => (hS G hs).elim h.gs (fun h1 => by have := h.box.lt; omega), h.gw⟩
/-- The document's pair anew, not yet in the box. -/
structure Pn (w wr w' : World) (g : Nat) (S : Nat → Prop) (p q q' : Pr) (K G : Nat) (va vb va' vb' : Value) : Prop where
  pd : Pd w w' g S p q K G va vb
  bel : Below wr.heap.size wr w'
  pv : Pv w' va' vb' q'
  oa : Off S va' q'.a.length
  ob : Off S vb' q'.b.length
  ga : ¬ liesX va' q'.a.length G
  gb : ¬ liesX vb' q'.b.length G
theorem new_ne {v v' : Value} {n n' size G : Nat} {cs cs' : List Value} {wx w' : World} (h : ¬ liesX v n G) (hv : IsX wx size v n cs) (hv' : IsX w' size v' n' cs') (ho : v' = v ∨ ∀ k, v'.ownBlock = some k → wx.heap.size ≤ k) (hG : G < wx.heap.size) : ¬ liesX v' n' G := by
  have := Off.new (S := fun k => k = G) (v := v) (v' := v') (n := n) (n' := n') (fun k hk e => h (e ▸ hk)) hv hv' ho (fun k e => by omega)
  exact fun hk => this G hk rfl
theorem pd_do {w1 : World} {q' : Pr} {va' vb' : Value} (h : Pd w wr g S p q K G va vb) (h1 : Below wr.heap.size wr w1) (hpv : Pv w' va' vb' q') (ha : va' = va ∨ ∀ k, va'.ownBlock = some k → w1.heap.size ≤ k) (hb : vb' = vb ∨ ∀ k, vb'.ownBlock = some k → w1.heap.size ≤ k) (hB : Below w1.heap.size w1 w') : Pn w wr w' g S p q q' K G va vb va' vb' := by
  have hd := h.below h1
  have hS : ∀ k, S k → k < w1.heap.size := fun k hs => (hd.th.tw.lt hs).2
  exact ⟨hd.below hB, h1.trans (hB.mono h1.size), hpv, hd.oa.new hd.pv.a hpv.a ha hS, hd.ob.new hd.pv.b hpv.b hb hS, new_ne hd.ga hd.pv.a hpv.a ha hd.box.lt, new_ne hd.gb hd.pv.b hpv.b hb hd.box.lt⟩
theorem Pn.below {w2 : World} {q' : Pr} {va' vb' : Value} (h : Pn w wr w' g S p q q' K G va vb va' vb') (hb : Below w'.heap.size w' w2) : Pn w wr w2 g S p q q' K G va vb va' vb' :=
  ⟨h.pd.below hb, h.bel.trans (hb.mono h.bel.size), ⟨h.pv.a.mono hb (Nat.le_refl _), h.pv.b.mono hb (Nat.le_refl _)⟩, h.oa, h.ob, h.ga, h.gb⟩
/-- A box of the law's own, made behind wr, is written. -/
theorem Pn.own {w2 : World} {q' : Pr} {va' vb' : Value} {R : Nat} (h : Pn w wr w' g S p q q' K G va vb va' vb') (hk : Kept (fun k => k = R) w' w2) (hR : wr.heap.size ≤ R) (hS : ¬ S R) (hG : R ≠ G) (h1 : ¬ liesX va q.a.length R) (h2 : ¬ liesX vb q.b.length R) (h3 : ¬ liesX va' q'.a.length R) (h4 : ¬ liesX vb' q'.b.length R) (hw : w.heap.size ≤ wr.heap.size) : Pn w wr w2 g S p q q' K G va vb va' vb' :=
  ⟨⟨h.pd.th.kept hk (fun k hs e => hS (e ▸ hs)) (fun k hl e => by omega), ⟨h.pd.pv.a.kept hk (fun k hl e => h1 (e ▸ hl)), h.pd.pv.b.kept hk (fun k hl e => h2 (e ▸ hl))⟩, h.pd.oa, h.pd.ob, h.pd.ga, h.pd.gb, h.pd.box.kept hk (fun e => hG e.symm), h.pd.gs, h.pd.gw⟩, h.bel.trans (hk.below h.bel.size (fun k hl e => by omega)), ⟨h.pv.a.kept hk (fun k hl e => h3 (e ▸ hl)), h.pv.b.kept hk (fun k hl e => h4 (e ▸ hl))⟩, h.oa, h.ob, h.ga, h.gb⟩
/-- The document's pair anew, laid in the box. -/
theorem Pn.lay {w2 : World} {q' : Pr} {va' vb' : Value} (h : Pn w wr w' g S p q q' K G va vb va' vb') (hk : Kept (fun k => k = G) w' w2) (hb : Blk w2 G (prc va' vb' q') 29) : Pd w w2 g S p q' K G va' vb' :=
  ⟨h.pd.th.kept hk (fun k hs e => h.pd.gs (e ▸ hs)) (fun k hl e => by have := h.pd.gw; omega), ⟨h.pv.a.kept hk (fun k hl e => h.ga (e ▸ hl)), h.pv.b.kept hk (fun k hl e => h.gb (e ▸ hl))⟩, h.oa, h.ob, h.ga, h.gb, hb, h.pd.gs, h.pd.gw⟩
/-- The box is made behind the document's call. -/
theorem Pn.own1 {w2 : World} {q' : Pr} {va' vb' : Value} {x : Obj} (h : Pn w wr w' g S p q q' K G va vb va' vb') (h0 : Pd w wr g S p q K G va vb) (hk : Kept (fun k => k = w'.heap.size) (w'.alloc x) w2) : Pn w wr w2 g S p q q' K G va vb va' vb' :=
  (h.below (below_new19 w' x)).own hk h.bel.size (fun hs => by have := (h0.th.tw.lt hs).2; have := h.bel.size; omega) (fun e => by have := h0.box.lt; have := h.bel.size; omega) (fun hl => by have := h0.pv.a.lies_lt (by decide) hl; have := h.bel.size; omega) (fun hl => by have := h0.pv.b.lies_lt (by decide) hl; have := h.bel.size; omega) (fun hl => by have := h.pv.a.lies_lt (by decide) hl; omega) (fun hl => by have := h.pv.b.lies_lt (by decide) hl; omega) h0.th.bel.size
/-- The box was made ahead of it. -/
theorem Pn.own2 {w2 : World} {q' : Pr} {va' vb' : Value} {x : Obj} {n : Nat} (h : Pn w wr w' g S p q q' K G va vb va' vb') (h0 : Pd w wr g S p q K G va vb) (ha : va' = va ∨ ∀ k, va'.ownBlock = some k → ((wr.drewN n).alloc x).heap.size ≤ k) (hb : vb' = vb ∨ ∀ k, vb'.ownBlock = some k → ((wr.drewN n).alloc x).heap.size ≤ k) (hk : Kept (fun k => k = wr.heap.size) w' w2) : Pn w wr w2 g S p q q' K G va vb va' vb' := by
  have h1 : Below wr.heap.size wr ((wr.drewN n).alloc x) := (below_drewN19 (Below.refl _ wr) n).trans (below_new19 (wr.drewN n) x)
  have hd := h0.below h1
  have hs : ((wr.drewN n).alloc x).heap.size = wr.heap.size + 1 := by simp [World.drewN]
  have l1 : ¬ liesX va q.a.length wr.heap.size := fun hl => by have := h0.pv.a.lies_lt (by decide) hl; omega
  have l2 : ¬ liesX vb q.b.length wr.heap.size := fun hl => by have := h0.pv.b.lies_lt (by decide) hl; omega
  exact h.own hk (Nat.le_refl _) (fun hs => by have := (h0.th.tw.lt hs).2; omega) (fun e => by have := h0.box.lt; omega) l1 l2 (new_ne l1 hd.pv.a h.pv.a ha (by omega)) (new_ne l2 hd.pv.b h.pv.b hb (by omega)) h0.th.bel.size
end
set_option maxRecDepth 100000 in
set_option maxHeartbeats 8000000 in
theorem twinPlays_all (v : Value) (l : List Ac20) (w : World) (hv : IsX w 11 v l.length (row acl l)) :
    Calls Try.prog 3 #[v] w fun e w' => e = .returned (.bool true) ∧ Below w.heap.size w w' := by
  obtain ⟨N, hN⟩ : ∃ N, l.length = N := ⟨_, rfl⟩
  rw [hN] at hv
  have hlen := fun W => len_X (P := Try.prog) hv 22 3 35 Try.underlying22 W
  have HV := Lib.hid hv
  have HN := Lib.hid hN
  clear hv hN
  by_cases hbig : 60 < N
  · have hbig' : (60 : Int) < (N : Int) := by omega
    go_enter Try.func3, Try.ntmps3
    go_wp2_with (go_at_call 7; refine (alive20 _).mono ?_; rintro e w1 ⟨rfl, hb1⟩)
    go_ret
    exact ⟨rfl, hb1⟩
  have hbig' : ¬ (60 : Int) < (N : Int) := by omega
  have hbd : decide ((60 : Int) < (N : Int)) = false := decide_eq_false hbig'
  have HNX := Lib.hid (show N ≤ 60 from by omega)
  clear hbig
  go_enter Try.func3, Try.ntmps3
  go_wp2_with fail
  refine (alive20 _).mono ?_
  rintro e w1 ⟨rfl, hb1⟩
  have HB1 := Lib.hid hb1
  clear hb1
  go_wp2_with fail
  refine (tnew _).mono ?_
  rintro e w2 ⟨g, S0, rfl, h2, hb2⟩
  have H2 := Lib.hid (Th.new HB1.out h2 hb2)
  clear h2 hb2
  go_wp2_with fail
  refine (rnew20 _).mono ?_
  rintro e w3 ⟨rfl, hb3⟩
  have H3 := Lib.hid (H2.out.below hb3)
  clear hb3
  unfold pcl
  have hbx := Blk.new w3 (prc (.slice none 0 0) (.slice none 0 0) Pr.new) 29
  have hpd : Pd w (w3.alloc (.cells (prc (.slice none 0 0) (.slice none 0 0) Pr.new) 29)) g S0 Pr.new Pr.new 0 w3.heap.size (.slice none 0 0) (.slice none 0 0) :=
    ⟨H3.out.alloc _, ⟨IsX.nil _ _, IsX.nil _ _⟩, Off.nil _ _, Off.nil _ _, (fun h => h.1 rfl), (fun h => h.1 rfl), hbx, (fun h => by have := (H3.out.tw.lt h).2; omega), H3.out.bel.size⟩
  obtain ⟨w4, hw4⟩ : ∃ z, w3.alloc (.cells (prc (.slice none 0 0) (.slice none 0 0) Pr.new) 29) = z := ⟨_, rfl⟩
  obtain ⟨G, hG⟩ : ∃ z, w3.heap.size = z := ⟨_, rfl⟩
  rw [hw4, hG] at hpd
  have HP := Lib.hid hpd
  have HW4 := Lib.hid (show w3.alloc (.cells #[.slice none 0 0, .slice none 0 0, .bool true, .bool true, .int .i64 0, .int .i64 1, .int .i64 0] 29) = w4 from hw4)
  have HG := Lib.hid hG
  clear hpd hw4 hbx hG
  go_wp2_with fail
  try rw [HW4.out]
  try rw [HG.out]
  go_loopw [5] (fun c wr => ∃ (i : Nat) (S : Nat → Prop) (p : Pr) (xa xb : Option Addr) (ca_ cb_ : Nat), i ≤ N ∧ c = .int .i64 i ∧ Hid (Pd w wr g S p p i G (.slice xa p.a.length ca_) (.slice xb p.b.length cb_))) (fun c _ => N - (intOf c).toNat)
  case atStart => exact ⟨0, S0, Pr.new, none, none, 0, 0, Nat.zero_le _, rfl, HP⟩
  case round =>
    obtain ⟨i, S, p, xa, xb, ca_, cb_, hi, rfl, HR⟩ := hrel
    by_cases hlt : i < N
    · obtain ⟨a, ha⟩ : ∃ a, l[i]? = some a := ⟨_, List.getElem?_eq_getElem (by rw [HN.out]; exact hlt)⟩
      have hvl : IsX w 11 v l.length (row acl l) := by rw [HN.out]; exact HV.out
      have HVL := Lib.hid hvl
      have HA := Lib.hid ha
      obtain ⟨b, o, hidx, k0, k1, k2, k3, k4, k5, k6, k7, k8, k9, k10⟩ := act_at20 (hvl.mono HR.out.th.bel (Nat.le_refl _)) ha
      clear hvl ha
      obtain ⟨ak, at_, asd, ac⟩ := a
      obtain ⟨ck, cv, ce, ca, cn, c1, c2, c3⟩ := ac
      simp only at k0 k1 k2 k3 k4 k5 k6 k7 k8 k9 k10
      by_cases hk : ak < 0 ∨ 3 < ak
      · have HF := Lib.hid HR.out.th.bel
        rcases hk with hk | hk
        · go_wp2
          go_ret
          exact ⟨rfl, HF.out⟩
        · have hk' : ¬ ak < 0 := by omega
          go_wp2
          go_ret
          exact ⟨rfl, HF.out⟩
      · have hk1 : ¬ ak < 0 := fun h => hk (.inl h)
        have hk2 : ¬ 3 < ak := fun h => hk (.inr h)
        have hd1 : decide (ak < 0) = false := decide_eq_false hk1
        have hd2 : decide (3 < ak) = false := decide_eq_false hk2
        have HK4 := Lib.hid (show 0 ≤ ak ∧ ak ≤ 3 from by omega)
        clear hk
        go_upto_region 12 with fail
        have HS := Lib.hid (fun (wx : World) (hb : Below wr.heap.size wr wx) => show wx.cell? ⟨G, 0, none⟩ = some (.slice xa p.a.length ca_) ∧ wx.cell? ⟨G, 1, none⟩ = some (.slice xb p.b.length cb_) ∧ wx.cell? ⟨G, 2, none⟩ = some (.bool p.u0) ∧ wx.cell? ⟨G, 3, none⟩ = some (.bool p.u1) ∧ wx.cell? ⟨G, 4, none⟩ = some (.int .i64 (sn p.ld : Int)) ∧ wx.cell? ⟨G, 5, none⟩ = some (.int .i64 (p.tm : Int)) ∧ wx.cell? ⟨G, 6, none⟩ = some (.int .i64 (p.st : Int)) ∧ wx.cell? ⟨b, o, none⟩ = some (.int .i64 ak) ∧ wx.cell? ⟨b, o + 1, none⟩ = some (.int .i64 at_) ∧ wx.cell? ⟨b, o + 2, none⟩ = some (.int .i64 asd) ∧ wx.cell? ⟨b, o + 3, none⟩ = some (.int .i64 ck) ∧ wx.cell? ⟨b, o + 4, none⟩ = some (.int .i64 cv) ∧ wx.cell? ⟨b, o + 5, none⟩ = some (.int .i64 ce) ∧ wx.cell? ⟨b, o + 6, none⟩ = some (.int .i64 ca) ∧ wx.cell? ⟨b, o + 7, none⟩ = some (.int .i64 cn) ∧ wx.cell? ⟨b, o + 8, none⟩ = some (.int .i64 c1) ∧ wx.cell? ⟨b, o + 9, none⟩ = some (.int .i64 c2) ∧ wx.cell? ⟨b, o + 10, none⟩ = some (.int .i64 c3) from
          have h := HR.out.box.below hb HR.out.box.lt
          ⟨h.cell 0 rfl, h.cell 1 rfl, h.cell 2 rfl, h.cell 3 rfl, h.cell 4 rfl, h.cell 5 rfl, h.cell 6 rfl, (hb.cell (cell_lt k0)).trans k0, (hb.cell (cell_lt k1)).trans k1, (hb.cell (cell_lt k2)).trans k2, (hb.cell (cell_lt k3)).trans k3, (hb.cell (cell_lt k4)).trans k4, (hb.cell (cell_lt k5)).trans k5, (hb.cell (cell_lt k6)).trans k6, (hb.cell (cell_lt k7)).trans k7, (hb.cell (cell_lt k8)).trans k8, (hb.cell (cell_lt k9)).trans k9, (hb.cell (cell_lt k10)).trans k10⟩)
        obtain ⟨q, hq⟩ : ∃ q, actP p ⟨ak, at_, asd, ⟨ck, cv, ce, ca, cn, c1, c2, c3⟩⟩ = q := ⟨_, rfl⟩
        obtain ⟨AN, hAN⟩ : ∃ AN, actN p ⟨ak, at_, asd, ⟨ck, cv, ce, ca, cn, c1, c2, c3⟩⟩ = AN := ⟨_, rfl⟩
        obtain ⟨AK, hAK⟩ : ∃ AK, actK p ⟨ak, at_, asd, ⟨ck, cv, ce, ca, cn, c1, c2, c3⟩⟩ = AK := ⟨_, rfl⟩
        have HQ := Lib.hid hq
        have HAN := Lib.hid hAN
        have HAK := Lib.hid hAK
        clear hq hAN hAK
        have HDO := Lib.hid (fun (W : World) (hW : Pv W (.slice xa p.a.length ca_) (.slice xb p.b.length cb_) p) => (show Calls Try.prog 10 #[.agg #[.slice xa p.a.length ca_, .slice xb p.b.length cb_, .bool p.u0, .bool p.u1, .int .i64 (sn p.ld : Int), .int .i64 (p.tm : Int), .int .i64 (p.st : Int)], .agg #[.int .i64 ak, .int .i64 at_, .int .i64 asd, .int .i64 ck, .int .i64 cv, .int .i64 ce, .int .i64 ca, .int .i64 cn, .int .i64 c1, .int .i64 c2, .int .i64 c3]] W fun e w' => ∃ va' vb', e = .returned (.tuple #[pval va' vb' q, .int .i64 (AN : Int), .int .i64 (AK : Int)]) ∧ Pv w' va' vb' q ∧ (va' = (.slice xa p.a.length ca_) ∨ ∀ k, va'.ownBlock = some k → W.heap.size ≤ k) ∧ (vb' = (.slice xb p.b.length cb_) ∨ ∀ k, vb'.ownBlock = some k → W.heap.size ≤ k) ∧ Below W.heap.size W w' from by
          have h1 := rdo20_any (.slice xa p.a.length ca_) (.slice xb p.b.length cb_) p ⟨ak, at_, asd, ⟨ck, cv, ce, ca, cn, c1, c2, c3⟩⟩ W hW HR.out.th.ok (HR.out.th.le.more (by have := HNX.out; omega)) HK4.out
          unfold Rdone at h1
          rw [HQ.out, HAN.out, HAK.out] at h1
          exact h1))
        go_cut [6, 7, 8] from 44 to 53 (fun x6 x7 x8 wx => ∃ (R : Nat) (xa2 : Option Addr) (ca2 : Nat) (xb2 : Option Addr) (cb2 : Nat), x6 = .pointer (some ⟨R, 0, none⟩) ∧ x7 = .int .i64 (AN : Int) ∧ x8 = .int .i64 (AK : Int) ∧ Hid (Pn w wr wx g S p p q i G (.slice xa p.a.length ca_) (.slice xb p.b.length cb_) (.slice xa2 q.a.length ca2) (.slice xb2 q.b.length cb2)) ∧ Hid (Blk wx R (prc (.slice xa2 q.a.length ca2) (.slice xb2 q.b.length cb2) q) 29) ∧ Hid (wr.heap.size ≤ R))
        case first =>
          clear k0 k1 k2 k3 k4 k5 k6 k7 k8 k9 k10
          refine AnyE.start (S := (fun wx => wx.cell? ⟨G, 0, none⟩ = some (.slice xa p.a.length ca_) ∧ wx.cell? ⟨G, 1, none⟩ = some (.slice xb p.b.length cb_) ∧ wx.cell? ⟨G, 2, none⟩ = some (.bool p.u0) ∧ wx.cell? ⟨G, 3, none⟩ = some (.bool p.u1) ∧ wx.cell? ⟨G, 4, none⟩ = some (.int .i64 (sn p.ld : Int)) ∧ wx.cell? ⟨G, 5, none⟩ = some (.int .i64 (p.tm : Int)) ∧ wx.cell? ⟨G, 6, none⟩ = some (.int .i64 (p.st : Int)) ∧ wx.cell? ⟨b, o, none⟩ = some (.int .i64 ak) ∧ wx.cell? ⟨b, o + 1, none⟩ = some (.int .i64 at_) ∧ wx.cell? ⟨b, o + 2, none⟩ = some (.int .i64 asd) ∧ wx.cell? ⟨b, o + 3, none⟩ = some (.int .i64 ck) ∧ wx.cell? ⟨b, o + 4, none⟩ = some (.int .i64 cv) ∧ wx.cell? ⟨b, o + 5, none⟩ = some (.int .i64 ce) ∧ wx.cell? ⟨b, o + 6, none⟩ = some (.int .i64 ca) ∧ wx.cell? ⟨b, o + 7, none⟩ = some (.int .i64 cn) ∧ wx.cell? ⟨b, o + 8, none⟩ = some (.int .i64 c1) ∧ wx.cell? ⟨b, o + 9, none⟩ = some (.int .i64 c2) ∧ wx.cell? ⟨b, o + 10, none⟩ = some (.int .i64 c3))) 13 (by kernel_rfl) (HS.out _ (below_drewN19 (Below.refl wr.heap.size wr) 1)) (fun hHeld => ?_)
          refine AnyE.take (i := 0) (v := ?_) rfl (by kernel_rfl) (by kernel_rfl) (by kernel_rfl) (by kernel_rfl) (fun _ _ _ h => h) (Or.inl ⟨by rfl, ?_⟩) (by assumption) ?_
          rotate_left 1
          · intro w hSw
            (try dsimp only at hSw)
            go_simp
            all_goals (with_reducible rfl)
          try simp only [Act.put, List.getElem_toArray, List.getElem_cons_zero, List.getElem_cons_succ, List.setIfInBounds_toArray, List.set_cons_zero, List.set_cons_succ]
          refine AnyE.take (i := 1) (v := ?_) rfl (by kernel_rfl) (by kernel_rfl) (by kernel_rfl) (by kernel_rfl) (fun _ _ _ h => h) (Or.inl ⟨by rfl, ?_⟩) (by assumption) ?_
          rotate_left 1
          · intro w hSw
            (try dsimp only at hSw)
            go_simp
            all_goals (with_reducible rfl)
          try simp only [Act.put, List.getElem_toArray, List.getElem_cons_zero, List.getElem_cons_succ, List.setIfInBounds_toArray, List.set_cons_zero, List.set_cons_succ]
          refine AnyE.take (i := 2) (v := ?_) rfl (by kernel_rfl) (by kernel_rfl) (by kernel_rfl) (by kernel_rfl) (fun _ _ _ h => h) (Or.inl ⟨by rfl, ?_⟩) (by assumption) ?_
          rotate_left 1
          · intro w hSw
            (try dsimp only at hSw)
            go_simp
            all_goals (with_reducible rfl)
          try simp only [Act.put, List.getElem_toArray, List.getElem_cons_zero, List.getElem_cons_succ, List.setIfInBounds_toArray, List.set_cons_zero, List.set_cons_succ]
          refine AnyE.take (i := 3) (v := ?_) rfl (by kernel_rfl) (by kernel_rfl) (by kernel_rfl) (by kernel_rfl) (fun _ _ _ h => h) (Or.inl ⟨by rfl, ?_⟩) (by assumption) ?_
          rotate_left 1
          · intro w hSw
            (try dsimp only at hSw)
            go_simp
            all_goals (with_reducible rfl)
          try simp only [Act.put, List.getElem_toArray, List.getElem_cons_zero, List.getElem_cons_succ, List.setIfInBounds_toArray, List.set_cons_zero, List.set_cons_succ]
          refine AnyE.take (i := 4) (v := ?_) rfl (by kernel_rfl) (by kernel_rfl) (by kernel_rfl) (by kernel_rfl) (fun _ _ _ h => h) (Or.inl ⟨by rfl, ?_⟩) (by assumption) ?_
          rotate_left 1
          · intro w hSw
            (try dsimp only at hSw)
            go_simp
            all_goals (with_reducible rfl)
          try simp only [Act.put, List.getElem_toArray, List.getElem_cons_zero, List.getElem_cons_succ, List.setIfInBounds_toArray, List.set_cons_zero, List.set_cons_succ]
          refine AnyE.next (rs := [5, 10]) (by kernel_rfl) (by simp) ?_
          refine AllE.cons rfl (fun K hK => ?_) ?_
          · go_simp
            refine (HDO.out (wr.drewN 1) (HR.out.below (below_drewN19 (Below.refl wr.heap.size wr) 1)).pv).mono ?_
            rintro e w6 ⟨va2, vb2, rfl, hpv6, ha6, hb6, hB6⟩
            obtain ⟨xa2, ca2, rfl, _, _⟩ := hpv6.a.slice
            obtain ⟨xb2, cb2, rfl, _, _⟩ := hpv6.b.slice
            unfold pval
            have HD6 := Lib.hid (pd_do HR.out (below_drewN19 (Below.refl wr.heap.size wr) 1) hpv6 ha6 hb6 hB6)
            have HA6 := Lib.hid ha6
            have HB6 := Lib.hid hb6
            have HW6 := Lib.hid hB6
            clear hpv6 ha6 hb6 hB6
            refine hK.out _ _ (HS.out _ HD6.out.bel) (fun hHeld => ?_)
            clear hK K
            try simp only [Act.put, List.getElem_toArray, List.getElem_cons_zero, List.getElem_cons_succ, List.setIfInBounds_toArray, List.set_cons_zero, List.set_cons_succ]
            refine AnyE.take (i := 6) (v := ?_) rfl (by kernel_rfl) (by kernel_rfl) (by kernel_rfl) (by kernel_rfl) (fun _ _ _ h => h) (Or.inl ⟨by rfl, ?_⟩) (by assumption) ?_
            rotate_left 1
            · intro w hSw
              (try dsimp only at hSw)
              go_simp
              all_goals (with_reducible rfl)
            try simp only [Act.put, List.getElem_toArray, List.getElem_cons_zero, List.getElem_cons_succ, List.setIfInBounds_toArray, List.set_cons_zero, List.set_cons_succ]
            refine AnyE.take (i := 7) (v := ?_) rfl (by kernel_rfl) (by kernel_rfl) (by kernel_rfl) (by kernel_rfl) (fun _ _ _ h => h) (Or.inl ⟨by rfl, ?_⟩) (by assumption) ?_
            rotate_left 1
            · intro w hSw
              (try dsimp only at hSw)
              go_simp
              all_goals (with_reducible rfl)
            try simp only [Act.put, List.getElem_toArray, List.getElem_cons_zero, List.getElem_cons_succ, List.setIfInBounds_toArray, List.set_cons_zero, List.set_cons_succ]
            refine AnyE.take (i := 8) (v := ?_) rfl (by kernel_rfl) (by kernel_rfl) (by kernel_rfl) (by kernel_rfl) (fun _ _ _ h => h) (Or.inl ⟨by rfl, ?_⟩) (by assumption) ?_
            rotate_left 1
            · intro w hSw
              (try dsimp only at hSw)
              go_simp
              all_goals (with_reducible rfl)
            try simp only [Act.put, List.getElem_toArray, List.getElem_cons_zero, List.getElem_cons_succ, List.setIfInBounds_toArray, List.set_cons_zero, List.set_cons_succ]
            refine AnyE.take (i := 9) (v := ?_) rfl (by kernel_rfl) (by kernel_rfl) (by kernel_rfl) (by kernel_rfl) (fun _ _ _ h => h) (Or.inl ⟨by rfl, ?_⟩) (by assumption) ?_
            rotate_left 1
            · intro w hSw
              (try dsimp only at hSw)
              go_simp
              all_goals (with_reducible rfl)
            try simp only [Act.put, List.getElem_toArray, List.getElem_cons_zero, List.getElem_cons_succ, List.setIfInBounds_toArray, List.set_cons_zero, List.set_cons_succ]
            refine AnyE.next (rs := [10]) (by kernel_rfl) (by simp) ?_
            refine AllE.cons rfl (fun K hK => ?_) AllE.nil
            go_simp
            refine hK.out _ _ (HS.out _ (HD6.out.bel.trans ((below_new19 w6 (.cells #[.slice none 0 0, .slice none 0 0, .bool false, .bool false, .int .i64 0, .int .i64 0, .int .i64 0] 29)).mono HD6.out.bel.size))) (fun hHeld => ?_)
            clear hK K
            try simp only [Act.put, List.getElem_toArray, List.getElem_cons_zero, List.getElem_cons_succ, List.setIfInBounds_toArray, List.set_cons_zero, List.set_cons_succ]
            refine AnyE.next (rs := [11]) (by kernel_rfl) (by simp) ?_
            refine AllE.cons rfl (fun K hK => ?_) AllE.nil
            refine step_store7 rfl 29 Try.sizePr20 _ _ rfl w6.heap.size 29 (Blk.new w6 #[.slice none 0 0, .slice none 0 0, .bool false, .bool false, .int .i64 0, .int .i64 0, .int .i64 0] 29) rfl rfl ?_
            intro w8 hr8 hk8
            have HR8 := Lib.hid (show Blk w8 w6.heap.size (prc (.slice xa2 q.a.length ca2) (.slice xb2 q.b.length cb2) q) 29 from hr8)
            have HD8 := Lib.hid (HD6.out.own1 HR.out hk8)
            have HRB := Lib.hid (show wr.heap.size ≤ w6.heap.size from HD6.out.bel.size)
            clear hr8 hk8
            refine hK.out _ _ (HS.out _ HD8.out.bel) (fun hHeld => ?_)
            clear hK K
            try simp only [Act.put, List.getElem_toArray, List.getElem_cons_zero, List.getElem_cons_succ, List.setIfInBounds_toArray, List.set_cons_zero, List.set_cons_succ]
            refine AnyE.take (i := 12) (v := ?_) rfl (by kernel_rfl) (by kernel_rfl) (by kernel_rfl) (by kernel_rfl) (fun _ _ _ h => h) (Or.inl ⟨by rfl, ?_⟩) (by assumption) ?_
            rotate_left 1
            · intro w hSw
              (try dsimp only at hSw)
              go_simp
              all_goals (with_reducible rfl)
            try simp only [Act.put, List.getElem_toArray, List.getElem_cons_zero, List.getElem_cons_succ, List.setIfInBounds_toArray, List.set_cons_zero, List.set_cons_succ]
            refine AnyE.next (rs := [13]) (by kernel_rfl) (by simp) ?_
            refine AllE.last rfl (fun K hK => ?_)
            go_simp
            refine hK.out _ _ ?_
            clear hK K
            try simp only [Act.put, List.getElem_toArray, List.getElem_cons_zero, List.getElem_cons_succ, List.setIfInBounds_toArray, List.set_cons_zero, List.set_cons_succ]
            refine AnyE.done (by kernel_rfl) ?_ _
            go_wp2_with fail
            go_meet
            exact ⟨_, xa2, ca2, xb2, cb2, rfl, rfl, rfl, HD8, HR8, HRB⟩
          refine AllE.cons rfl (fun K hK => ?_) AllE.nil
          go_simp
          refine hK.out _ _ (HS.out _ ((below_drewN19 (Below.refl wr.heap.size wr) 1).trans (below_new19 (wr.drewN 1) (.cells #[.slice none 0 0, .slice none 0 0, .bool false, .bool false, .int .i64 0, .int .i64 0, .int .i64 0] 29)))) (fun hHeld => ?_)
          clear hK K
          try simp only [Act.put, List.getElem_toArray, List.getElem_cons_zero, List.getElem_cons_succ, List.setIfInBounds_toArray, List.set_cons_zero, List.set_cons_succ]
          refine AnyE.next (rs := [5]) (by kernel_rfl) (by simp) ?_
          refine AllE.cons rfl (fun K hK => ?_) AllE.nil
          go_simp
          refine (HDO.out ((wr.drewN 1).alloc (.cells #[.slice none 0 0, .slice none 0 0, .bool false, .bool false, .int .i64 0, .int .i64 0, .int .i64 0] 29)) (HR.out.below ((below_drewN19 (Below.refl wr.heap.size wr) 1).trans (below_new19 (wr.drewN 1) (.cells #[.slice none 0 0, .slice none 0 0, .bool false, .bool false, .int .i64 0, .int .i64 0, .int .i64 0] 29)))).pv).mono ?_
          rintro e w6 ⟨va2, vb2, rfl, hpv6, ha6, hb6, hB6⟩
          obtain ⟨xa2, ca2, rfl, _, _⟩ := hpv6.a.slice
          obtain ⟨xb2, cb2, rfl, _, _⟩ := hpv6.b.slice
          unfold pval
          have HD6 := Lib.hid (pd_do HR.out ((below_drewN19 (Below.refl wr.heap.size wr) 1).trans (below_new19 (wr.drewN 1) (.cells #[.slice none 0 0, .slice none 0 0, .bool false, .bool false, .int .i64 0, .int .i64 0, .int .i64 0] 29))) hpv6 ha6 hb6 hB6)
          have HA6 := Lib.hid ha6
          have HB6 := Lib.hid hb6
          have HW6 := Lib.hid hB6
          clear hpv6 ha6 hb6 hB6
          refine hK.out _ _ (HS.out _ HD6.out.bel) (fun hHeld => ?_)
          clear hK K
          try simp only [Act.put, List.getElem_toArray, List.getElem_cons_zero, List.getElem_cons_succ, List.setIfInBounds_toArray, List.set_cons_zero, List.set_cons_succ]
          refine AnyE.take (i := 6) (v := ?_) rfl (by kernel_rfl) (by kernel_rfl) (by kernel_rfl) (by kernel_rfl) (fun _ _ _ h => h) (Or.inl ⟨by rfl, ?_⟩) (by assumption) ?_
          rotate_left 1
          · intro w hSw
            (try dsimp only at hSw)
            go_simp
            all_goals (with_reducible rfl)
          try simp only [Act.put, List.getElem_toArray, List.getElem_cons_zero, List.getElem_cons_succ, List.setIfInBounds_toArray, List.set_cons_zero, List.set_cons_succ]
          refine AnyE.take (i := 7) (v := ?_) rfl (by kernel_rfl) (by kernel_rfl) (by kernel_rfl) (by kernel_rfl) (fun _ _ _ h => h) (Or.inl ⟨by rfl, ?_⟩) (by assumption) ?_
          rotate_left 1
          · intro w hSw
            (try dsimp only at hSw)
            go_simp
            all_goals (with_reducible rfl)
          try simp only [Act.put, List.getElem_toArray, List.getElem_cons_zero, List.getElem_cons_succ, List.setIfInBounds_toArray, List.set_cons_zero, List.set_cons_succ]
          refine AnyE.take (i := 8) (v := ?_) rfl (by kernel_rfl) (by kernel_rfl) (by kernel_rfl) (by kernel_rfl) (fun _ _ _ h => h) (Or.inl ⟨by rfl, ?_⟩) (by assumption) ?_
          rotate_left 1
          · intro w hSw
            (try dsimp only at hSw)
            go_simp
            all_goals (with_reducible rfl)
          try simp only [Act.put, List.getElem_toArray, List.getElem_cons_zero, List.getElem_cons_succ, List.setIfInBounds_toArray, List.set_cons_zero, List.set_cons_succ]
          refine AnyE.take (i := 9) (v := ?_) rfl (by kernel_rfl) (by kernel_rfl) (by kernel_rfl) (by kernel_rfl) (fun _ _ _ h => h) (Or.inl ⟨by rfl, ?_⟩) (by assumption) ?_
          rotate_left 1
          · intro w hSw
            (try dsimp only at hSw)
            go_simp
            all_goals (with_reducible rfl)
          try simp only [Act.put, List.getElem_toArray, List.getElem_cons_zero, List.getElem_cons_succ, List.setIfInBounds_toArray, List.set_cons_zero, List.set_cons_succ]
          refine AnyE.next (rs := [11]) (by kernel_rfl) (by simp) ?_
          refine AllE.cons rfl (fun K hK => ?_) AllE.nil
          refine step_store7 rfl 29 Try.sizePr20 _ _ rfl wr.heap.size 29 ((Blk.new (wr.drewN 1) #[.slice none 0 0, .slice none 0 0, .bool false, .bool false, .int .i64 0, .int .i64 0, .int .i64 0] 29).below HW6.out (Blk.new (wr.drewN 1) #[.slice none 0 0, .slice none 0 0, .bool false, .bool false, .int .i64 0, .int .i64 0, .int .i64 0] 29).lt) rfl rfl ?_
          intro w8 hr8 hk8
          have HR8 := Lib.hid (show Blk w8 wr.heap.size (prc (.slice xa2 q.a.length ca2) (.slice xb2 q.b.length cb2) q) 29 from hr8)
          have HD8 := Lib.hid (HD6.out.own2 HR.out HA6.out HB6.out hk8)
          have HRB := Lib.hid (show wr.heap.size ≤ wr.heap.size from Nat.le_refl _)
          clear hr8 hk8
          refine hK.out _ _ (HS.out _ HD8.out.bel) (fun hHeld => ?_)
          clear hK K
          try simp only [Act.put, List.getElem_toArray, List.getElem_cons_zero, List.getElem_cons_succ, List.setIfInBounds_toArray, List.set_cons_zero, List.set_cons_succ]
          refine AnyE.take (i := 12) (v := ?_) rfl (by kernel_rfl) (by kernel_rfl) (by kernel_rfl) (by kernel_rfl) (fun _ _ _ h => h) (Or.inl ⟨by rfl, ?_⟩) (by assumption) ?_
          rotate_left 1
          · intro w hSw
            (try dsimp only at hSw)
            go_simp
            all_goals (with_reducible rfl)
          try simp only [Act.put, List.getElem_toArray, List.getElem_cons_zero, List.getElem_cons_succ, List.setIfInBounds_toArray, List.set_cons_zero, List.set_cons_succ]
          refine AnyE.next (rs := [13]) (by kernel_rfl) (by simp) ?_
          refine AllE.last rfl (fun K hK => ?_)
          go_simp
          refine hK.out _ _ ?_
          clear hK K
          try simp only [Act.put, List.getElem_toArray, List.getElem_cons_zero, List.getElem_cons_succ, List.setIfInBounds_toArray, List.set_cons_zero, List.set_cons_succ]
          refine AnyE.done (by kernel_rfl) ?_ _
          go_wp2_with fail
          go_meet
          exact ⟨_, xa2, ca2, xb2, cb2, rfl, rfl, rfl, HD8, HR8, HRB⟩
        case rest =>
        obtain ⟨R, xa2, ca2, xb2, cb2, rfl, rfl, rfl, HD8, HR8, HRB⟩ := hcut
        clear k0 k1 k2 k3 k4 k5 k6 k7 k8 k9 k10 hidx
        have r0 : wc.cell? ⟨R, 0, none⟩ = some ((.slice xa2 q.a.length ca2)) := HR8.out.cell 0 rfl
        have r1 : wc.cell? ⟨R, 1, none⟩ = some ((.slice xb2 q.b.length cb2)) := HR8.out.cell 1 rfl
        have r2 : wc.cell? ⟨R, 2, none⟩ = some (.bool q.u0) := HR8.out.cell 2 rfl
        have r3 : wc.cell? ⟨R, 3, none⟩ = some (.bool q.u1) := HR8.out.cell 3 rfl
        have r4 : wc.cell? ⟨R, 4, none⟩ = some (.int .i64 (sn q.ld : Int)) := HR8.out.cell 4 rfl
        have r5 : wc.cell? ⟨R, 5, none⟩ = some (.int .i64 (q.tm : Int)) := HR8.out.cell 5 rfl
        have r6 : wc.cell? ⟨R, 6, none⟩ = some (.int .i64 (q.st : Int)) := HR8.out.cell 6 rfl
        have HBX := Lib.hid (show Blk wc G #[.slice xa p.a.length ca_, .slice xb p.b.length cb_, .bool p.u0, .bool p.u1, .int .i64 (sn p.ld : Int), .int .i64 (p.tm : Int), .int .i64 (p.st : Int)] 29 from HD8.out.pd.box)
        go_wp2_with (refine wpList_store7 rfl 29 Try.sizePr20 (.tmp 4) (.tmp 54) rfl G 29 HBX.out rfl rfl ?_)
        intro w9 hb9 hk9
        have HD9 := Lib.hid (HD8.out.lay hk9 hb9)
        clear hb9 hk9 r0 r1 r2 r3 r4 r5 r6
        obtain ⟨b, o, hidx, k0, k1, k2, k3, k4, k5, k6, k7, k8, k9, k10⟩ := act_at20 (HVL.out.mono HD9.out.th.bel (Nat.le_refl _)) HA.out
        simp only at k0 k1 k2 k3 k4 k5 k6 k7 k8 k9 k10
        have HDP := HD9.out.th.do (by have := HNX.out; omega) ⟨ak, at_, asd, ⟨ck, cv, ce, ca, cn, c1, c2, c3⟩⟩
        rw [HQ.out, HAN.out, HAK.out] at HDP
        have HDP := Lib.hid HDP
        go_wp2_with fail
        refine HDP.out.mono ?_
        rintro e w10 ⟨rfl, S10, h10, hS10, hk10⟩
        have HD10 := Lib.hid (HD9.out.call h10 hS10 hk10)
        clear h10 hS10 hk10 HDP k0 k1 k2 k3 k4 k5 k6 k7 k8 k9 k10 hidx
        go_wp2_with fail
        refine HD10.out.th.lead.mono ?_
        rintro e w11 ⟨rfl, hb11⟩
        have HD11 := Lib.hid (HD10.out.below hb11)
        clear hb11
        go_wp2_with fail
        refine HD11.out.th.logs.mono ?_
        rintro e w12 ⟨rfl, hb12⟩
        have HD12 := Lib.hid (HD11.out.below hb12)
        clear hb12
        have m0 : ∀ n, (w12.drewN n).cell? ⟨G, 0, none⟩ = some ((.slice xa2 q.a.length ca2)) := fun n => HD12.out.box.cell 0 rfl
        have m1 : ∀ n, (w12.drewN n).cell? ⟨G, 1, none⟩ = some ((.slice xb2 q.b.length cb2)) := fun n => HD12.out.box.cell 1 rfl
        have m4 : ∀ n, (w12.drewN n).cell? ⟨G, 4, none⟩ = some (.int .i64 (sn q.ld : Int)) := fun n => HD12.out.box.cell 4 rfl
        have m5 : ∀ n, (w12.drewN n).cell? ⟨G, 5, none⟩ = some (.int .i64 (q.tm : Int)) := fun n => HD12.out.box.cell 5 rfl
        have m6 : ∀ n, (w12.drewN n).cell? ⟨G, 6, none⟩ = some (.int .i64 (q.st : Int)) := fun n => HD12.out.box.cell 6 rfl
        have HSQ := Lib.hid (fun n => (show Calls Try.prog 14 #[pp g] (w12.drewN n) fun e w' => e = .returned (.int .i64 (q.st : Int)) ∧ ∃ m, w' = w12.drewN m from (tsettled_q (w12.drewN n) _ g S10 q (HD12.out.th.drew n).tw).mono fun e w' ⟨h1, m, h2⟩ => ⟨h1, n + m, by rw [h2]; simp [World.drewN, Nat.add_assoc]⟩))
        go_upto_region 17 with fail
        go_quiet (exact (HSQ.out _))
        obtain ⟨w13, hw13⟩ : ∃ z, w12.drewN nq = z := ⟨_, rfl⟩
        have HD13 := Lib.hid (show Pd w w13 g S10 q q (i + 1) G (.slice xa2 q.a.length ca2) (.slice xb2 q.b.length cb2) from hw13 ▸ HD12.out.below (below_drewN19 (Below.refl _ w12) nq))
        rw [hw13]
        have HD14 := Lib.hid (HD13.out.below ((Below.refl w13.heap.size w13).drew))
        clear m0 m1 m4 m5 m6 hw13
        go_upto_region 19 with fail
        refine wp_region_held_drew (S := (fun wx => wx.cell? ⟨G, 0, none⟩ = some ((.slice xa2 q.a.length ca2)) ∧ wx.cell? ⟨G, 1, none⟩ = some ((.slice xb2 q.b.length cb2)))) (by kernel_rfl) (⟨HD14.out.box.cell 0 rfl, HD14.out.box.cell 1 rfl⟩) (fun hHeld => ?_)
        refine wpAnyH_take (i := 0) (v := ?_) rfl (by kernel_rfl) (by kernel_rfl) (by kernel_rfl) (fun _ _ _ h => h) (Or.inl ⟨by rfl, ?_⟩) (by assumption) ?_
        rotate_left 1
        · intro w hSw
          (try dsimp only at hSw)
          go_simp
          all_goals (with_reducible rfl)
        try simp only [Act.put, List.getElem_toArray, List.getElem_cons_zero, List.getElem_cons_succ, List.setIfInBounds_toArray, List.set_cons_zero, List.set_cons_succ]
        refine wpAnyH_take (i := 3) (v := ?_) rfl (by kernel_rfl) (by kernel_rfl) (by kernel_rfl) (fun _ _ _ h => h) (Or.inl ⟨by rfl, ?_⟩) (by assumption) ?_
        rotate_left 1
        · intro w hSw
          (try dsimp only at hSw)
          go_simp
          all_goals (with_reducible rfl)
        try simp only [Act.put, List.getElem_toArray, List.getElem_cons_zero, List.getElem_cons_succ, List.setIfInBounds_toArray, List.set_cons_zero, List.set_cons_succ]
        refine wpAnyH_take (i := 4) (v := ?_) rfl (by kernel_rfl) (by kernel_rfl) (by kernel_rfl) (fun _ _ _ h => h) (Or.inl ⟨by rfl, ?_⟩) (by assumption) ?_
        rotate_left 1
        · intro w hSw
          (try dsimp only at hSw)
          go_simp
          all_goals (with_reducible rfl)
        try simp only [Act.put, List.getElem_toArray, List.getElem_cons_zero, List.getElem_cons_succ, List.setIfInBounds_toArray, List.set_cons_zero, List.set_cons_succ]
        refine wpAnyH_ready (rs := [1]) (by kernel_rfl) (by simp) ?_
        refine AllReadyH.cons rfl (fun K hK => ?_) AllReadyH.nil
        go_simp
        refine (tmap w13.drew _ g S10 q false HD14.out.th.tw (HD14.out.th.le.more (by have := HNX.out; omega))).mono ?_
        rintro e wa ⟨g1, Sg1, rfl, hm, hb⟩
        have HDA := Lib.hid (HD14.out.below hb)
        have HMg1 := Lib.hid hm
        clear hm hb
        refine hK.out _ _ (⟨HDA.out.box.cell 0 rfl, HDA.out.box.cell 1 rfl⟩) (fun hHeld => ?_)
        clear hK K
        try simp only [Act.put, List.getElem_toArray, List.getElem_cons_zero, List.getElem_cons_succ, List.setIfInBounds_toArray, List.set_cons_zero, List.set_cons_succ]
        refine wpAnyH_ready (rs := [2]) (by kernel_rfl) (by simp) ?_
        refine AllReadyH.cons rfl (fun K hK => ?_) AllReadyH.nil
        go_simp
        refine (dbytes wa _ g1 Sg1 _ HMg1.out (rep_ok20 _ 1000000 (by have h1 := HDA.out.th.le.log false; have h2 := HNX.out; omega))).mono ?_
        rintro e wb ⟨v1, rfl, hv, hb⟩
        have HDB := Lib.hid (HDA.out.below hb)
        have Hv1 := Lib.hid hv
        clear hv hb
        refine hK.out _ _ (⟨HDB.out.box.cell 0 rfl, HDB.out.box.cell 1 rfl⟩) (fun hHeld => ?_)
        clear hK K
        try simp only [Act.put, List.getElem_toArray, List.getElem_cons_zero, List.getElem_cons_succ, List.setIfInBounds_toArray, List.set_cons_zero, List.set_cons_succ]
        refine wpAnyH_ready (rs := [5]) (by kernel_rfl) (by simp) ?_
        refine AllReadyH.cons rfl (fun K hK => ?_) AllReadyH.nil
        go_simp
        refine (maps_any (.slice xa2 q.a.length ca2) q.a.length q.a wb HDB.out.pv.a rfl (by have h1 := HDB.out.th.le.log false; have h3 : (q.log false).length = q.a.length := rfl; have h2 := HNX.out; omega)).mono ?_
        rintro e wd ⟨v2, rfl, hv, hb⟩
        have HDD := Lib.hid (HDB.out.below hb)
        have Hv1' := Lib.hid (Hv1.out.mono hb (Nat.le_refl _))
        have Hv2 := Lib.hid (show IsB wd v2 (dby (repL [] (q.log false))) from hv)
        clear hv hb
        refine hK.out _ _ (⟨HDD.out.box.cell 0 rfl, HDD.out.box.cell 1 rfl⟩) (fun hHeld => ?_)
        clear hK K
        try simp only [Act.put, List.getElem_toArray, List.getElem_cons_zero, List.getElem_cons_succ, List.setIfInBounds_toArray, List.set_cons_zero, List.set_cons_succ]
        refine wpAnyH_ready (rs := [6]) (by kernel_rfl) (by simp) ?_
        refine AllReadyH.cons rfl (fun K hK => ?_) AllReadyH.nil
        go_simp
        refine (same_yes v1 v2 (dby (repL [] (q.log false))) wd Hv1'.out Hv2.out (by rw [dby_len]; have h3 := (rep_ok20 (q.log false) 1000000 (by have h1 := HDD.out.th.le.log false; have h2 := HNX.out; omega)).len; omega)).mono ?_
        rintro e wq ⟨rfl, n1, rfl⟩
        have HDE := Lib.hid (HDD.out.below (below_drewN19 (Below.refl _ wd) n1))
        refine hK.out _ _ (⟨HDE.out.box.cell 0 rfl, HDE.out.box.cell 1 rfl⟩) (fun hHeld => ?_)
        clear hK K
        try simp only [Act.put, List.getElem_toArray, List.getElem_cons_zero, List.getElem_cons_succ, List.setIfInBounds_toArray, List.set_cons_zero, List.set_cons_succ]
        refine wpAnyH_take (i := 7) (v := ?_) rfl (by kernel_rfl) (by kernel_rfl) (by kernel_rfl) (fun _ _ _ h => h) (Or.inl ⟨by rfl, ?_⟩) (by assumption) ?_
        rotate_left 1
        · intro w hSw
          (try dsimp only at hSw)
          go_simp
          all_goals (with_reducible rfl)
        try simp only [Act.put, List.getElem_toArray, List.getElem_cons_zero, List.getElem_cons_succ, List.setIfInBounds_toArray, List.set_cons_zero, List.set_cons_succ]
        refine wpAnyH_take (i := 8) (v := ?_) rfl (by kernel_rfl) (by kernel_rfl) (by kernel_rfl) (fun _ _ _ h => h) (Or.inl ⟨by rfl, ?_⟩) (by assumption) ?_
        rotate_left 1
        · intro w hSw
          (try dsimp only at hSw)
          go_simp
          all_goals (with_reducible rfl)
        try simp only [Act.put, List.getElem_toArray, List.getElem_cons_zero, List.getElem_cons_succ, List.setIfInBounds_toArray, List.set_cons_zero, List.set_cons_succ]
        refine wpAnyH_take (i := 9) (v := ?_) rfl (by kernel_rfl) (by kernel_rfl) (by kernel_rfl) (fun _ _ _ h => h) (Or.inl ⟨by rfl, ?_⟩) (by assumption) ?_
        rotate_left 1
        · intro w hSw
          (try dsimp only at hSw)
          go_simp
          all_goals (with_reducible rfl)
        try simp only [Act.put, List.getElem_toArray, List.getElem_cons_zero, List.getElem_cons_succ, List.setIfInBounds_toArray, List.set_cons_zero, List.set_cons_succ]
        refine wpAnyH_take (i := 12) (v := ?_) rfl (by kernel_rfl) (by kernel_rfl) (by kernel_rfl) (fun _ _ _ h => h) (Or.inl ⟨by rfl, ?_⟩) (by assumption) ?_
        rotate_left 1
        · intro w hSw
          (try dsimp only at hSw)
          go_simp
          all_goals (with_reducible rfl)
        try simp only [Act.put, List.getElem_toArray, List.getElem_cons_zero, List.getElem_cons_succ, List.setIfInBounds_toArray, List.set_cons_zero, List.set_cons_succ]
        refine wpAnyH_take (i := 13) (v := ?_) rfl (by kernel_rfl) (by kernel_rfl) (by kernel_rfl) (fun _ _ _ h => h) (Or.inl ⟨by rfl, ?_⟩) (by assumption) ?_
        rotate_left 1
        · intro w hSw
          (try dsimp only at hSw)
          go_simp
          all_goals (with_reducible rfl)
        try simp only [Act.put, List.getElem_toArray, List.getElem_cons_zero, List.getElem_cons_succ, List.setIfInBounds_toArray, List.set_cons_zero, List.set_cons_succ]
        refine wpAnyH_ready (rs := [10]) (by kernel_rfl) (by simp) ?_
        refine AllReadyH.cons rfl (fun K hK => ?_) AllReadyH.nil
        go_simp
        refine (tmap (wd.drewN n1) _ g S10 q true HDE.out.th.tw (HDE.out.th.le.more (by have := HNX.out; omega))).mono ?_
        rintro e wf ⟨g2, Sg2, rfl, hm, hb⟩
        have HDF := Lib.hid (HDE.out.below hb)
        have HMg2 := Lib.hid hm
        clear hm hb
        refine hK.out _ _ (⟨HDF.out.box.cell 0 rfl, HDF.out.box.cell 1 rfl⟩) (fun hHeld => ?_)
        clear hK K
        try simp only [Act.put, List.getElem_toArray, List.getElem_cons_zero, List.getElem_cons_succ, List.setIfInBounds_toArray, List.set_cons_zero, List.set_cons_succ]
        refine wpAnyH_ready (rs := [11]) (by kernel_rfl) (by simp) ?_
        refine AllReadyH.cons rfl (fun K hK => ?_) AllReadyH.nil
        go_simp
        refine (dbytes wf _ g2 Sg2 _ HMg2.out (rep_ok20 _ 1000000 (by have h1 := HDF.out.th.le.log true; have h2 := HNX.out; omega))).mono ?_
        rintro e wh ⟨v3, rfl, hv, hb⟩
        have HDH := Lib.hid (HDF.out.below hb)
        have Hv3 := Lib.hid hv
        clear hv hb
        refine hK.out _ _ (⟨HDH.out.box.cell 0 rfl, HDH.out.box.cell 1 rfl⟩) (fun hHeld => ?_)
        clear hK K
        try simp only [Act.put, List.getElem_toArray, List.getElem_cons_zero, List.getElem_cons_succ, List.setIfInBounds_toArray, List.set_cons_zero, List.set_cons_succ]
        refine wpAnyH_ready (rs := [14]) (by kernel_rfl) (by simp) ?_
        refine AllReadyH.cons rfl (fun K hK => ?_) AllReadyH.nil
        go_simp
        refine (maps_any (.slice xb2 q.b.length cb2) q.b.length q.b wh HDH.out.pv.b rfl (by have h1 := HDH.out.th.le.log true; have h3 : (q.log true).length = q.b.length := rfl; have h2 := HNX.out; omega)).mono ?_
        rintro e wi ⟨v4, rfl, hv, hb⟩
        have HDI := Lib.hid (HDH.out.below hb)
        have Hv3' := Lib.hid (Hv3.out.mono hb (Nat.le_refl _))
        have Hv4 := Lib.hid (show IsB wi v4 (dby (repL [] (q.log true))) from hv)
        clear hv hb
        refine hK.out _ _ (⟨HDI.out.box.cell 0 rfl, HDI.out.box.cell 1 rfl⟩) (fun hHeld => ?_)
        clear hK K
        try simp only [Act.put, List.getElem_toArray, List.getElem_cons_zero, List.getElem_cons_succ, List.setIfInBounds_toArray, List.set_cons_zero, List.set_cons_succ]
        refine wpAnyH_ready (rs := [15]) (by kernel_rfl) (by simp) ?_
        refine AllReadyH.cons rfl (fun K hK => ?_) AllReadyH.nil
        go_simp
        refine (same_yes v3 v4 (dby (repL [] (q.log true))) wi Hv3'.out Hv4.out (by rw [dby_len]; have h3 := (rep_ok20 (q.log true) 1000000 (by have h1 := HDI.out.th.le.log true; have h2 := HNX.out; omega)).len; omega)).mono ?_
        rintro e wq ⟨rfl, n2, rfl⟩
        have HDJ := Lib.hid (HDI.out.below (below_drewN19 (Below.refl _ wi) n2))
        refine hK.out _ _ (⟨HDJ.out.box.cell 0 rfl, HDJ.out.box.cell 1 rfl⟩) (fun hHeld => ?_)
        clear hK K
        try simp only [Act.put, List.getElem_toArray, List.getElem_cons_zero, List.getElem_cons_succ, List.setIfInBounds_toArray, List.set_cons_zero, List.set_cons_succ]
        refine wpAnyH_take (i := 16) (v := ?_) rfl (by kernel_rfl) (by kernel_rfl) (by kernel_rfl) (fun _ _ _ h => h) (Or.inl ⟨by rfl, ?_⟩) (by assumption) ?_
        rotate_left 1
        · intro w hSw
          (try dsimp only at hSw)
          go_simp
          all_goals (with_reducible rfl)
        try simp only [Act.put, List.getElem_toArray, List.getElem_cons_zero, List.getElem_cons_succ, List.setIfInBounds_toArray, List.set_cons_zero, List.set_cons_succ]
        refine wpAnyH_take (i := 17) (v := ?_) rfl (by kernel_rfl) (by kernel_rfl) (by kernel_rfl) (fun _ _ _ h => h) (Or.inl ⟨by rfl, ?_⟩) (by assumption) ?_
        rotate_left 1
        · intro w hSw
          (try dsimp only at hSw)
          go_simp
          all_goals (with_reducible rfl)
        try simp only [Act.put, List.getElem_toArray, List.getElem_cons_zero, List.getElem_cons_succ, List.setIfInBounds_toArray, List.set_cons_zero, List.set_cons_succ]
        refine wpAnyH_done (by kernel_rfl) ?_ _
        go_wp2
        go_roundw
        case rel => exact ⟨i + 1, S10, q, xa2, xb2, ca2, cb2, by omega, by go_num, HDJ⟩
        case measure => simp [intOf]; omega
    · obtain rfl : i = N := by omega
      have m6 : wr.cell? ⟨G, 6, none⟩ = some (.int .i64 (p.st : Int)) := HR.out.box.cell 6 rfl
      go_wp2_with fail
      refine (tanswer_none _ _ g S p (p.st : Int) HR.out.th.tw (.inr (Int.le_refl _))).mono ?_
      rintro e wa ⟨rfl, hb⟩
      have HA1 := Lib.hid (HR.out.below hb)
      clear hb m6
      go_wp2_with (go_at_call 20; refine (code_code 6 _ (by decide) (by decide)).mono ?_; rintro e wx ⟨rfl, rfl⟩)
      refine (tmap_none _ _ g S p 2 HA1.out.th.tw (by decide)).mono ?_
      rintro e wb ⟨rfl, hb⟩
      have HA2 := Lib.hid (HA1.out.below hb)
      clear hb
      go_wp2_with fail
      refine (tmap_none _ _ g S p (-1) HA2.out.th.tw (by decide)).mono ?_
      rintro e wd ⟨rfl, hb⟩
      have HA3 := Lib.hid (HA2.out.below hb)
      clear hb
      go_wp2
      go_ret
      exact ⟨rfl, HA3.out.th.bel⟩
end Go.Proofs.Ytlaighghagcjjaa
