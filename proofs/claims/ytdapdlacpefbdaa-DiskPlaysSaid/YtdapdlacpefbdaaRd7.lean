/- The document's disk: Do: by contract. -/
import Derived.Test.YtdapdlacpefbdaaRd6
namespace Go.Proofs.Ytdapdlacpefbdaa
open Go.RowKit Go.Cor

theorem deed_act (d : Dsk) (a : Ac) (k : Nat) (hk : k ≤ 6) (ha : d.armed ≠ some 0) : actD d a k = (if (ddeed d a k).2 = 0 then (ddeed d a k).1.done else (ddeed d a k).1, [], 0, (ddeed d a k).2) := by
  match k, hk with
  | 0, _ =>
    simp only [actD, ddeed, Dsk.create, if_neg ha]
    repeat' split
    all_goals first | rfl | (exfalso; simp_all; done)
  | 1, _ =>
    simp only [actD, ddeed, Dsk.append, Dsk.on, if_neg ha, dwrite]
    cases tfind d.now a.name with
    | none => rfl
    | some j =>
      dsimp only
      repeat' split
      all_goals first | rfl | (exfalso; simp_all; done)
  | 2, _ =>
    simp only [actD, ddeed, Dsk.sync, Dsk.on, if_neg ha, dwrite]
    cases tfind d.now a.name <;> rfl
  | 3, _ => simp only [actD, ddeed, Dsk.syncNames, if_neg ha]; rfl
  | 4, _ =>
    simp only [actD, ddeed, Dsk.rename, Dsk.on, if_neg ha]
    cases tfind d.now a.name with
    | none => rfl
    | some j =>
      dsimp only
      repeat' split
      all_goals first | rfl | (exfalso; simp_all; done)
  | 5, _ =>
    simp only [actD, ddeed, Dsk.remove, Dsk.on, if_neg ha]
    cases tfind d.now a.name <;> rfl
  | 6, _ =>
    simp only [actD, ddeed, Dsk.cut, Dsk.on, if_neg ha, dwrite]
    cases tfind d.now a.name with
    | none => rfl
    | some j =>
      dsimp only
      repeat' split
      all_goals first | rfl | (exfalso; simp_all; done)
theorem down_act (d : Dsk) (a : Ac) (k : Nat) (hk : k ≠ 8) (hk2 : k ≤ 11) (ha : d.armed = some 0) : actD d a k = (d, [], 0, 12) := by
  match k, hk2 with
  | 0, _ => simp only [actD, Dsk.create, if_pos ha]
  | 1, _ => simp only [actD, Dsk.append, Dsk.on, if_pos ha]
  | 2, _ => simp only [actD, Dsk.sync, Dsk.on, if_pos ha]
  | 3, _ => simp only [actD, Dsk.syncNames, if_pos ha]
  | 4, _ => simp only [actD, Dsk.rename, Dsk.on, if_pos ha]
  | 5, _ => simp only [actD, Dsk.remove, Dsk.on, if_pos ha]
  | 6, _ => simp only [actD, Dsk.cut, Dsk.on, if_pos ha]
  | 7, _ => simp only [actD, Dsk.arm, if_pos ha]
  | 8, _ => exact absurd rfl hk
  | 9, _ => simp only [actD, Dsk.spoil, Dsk.on, if_pos ha]
  | 10, _ => simp only [actD, Dsk.read, Dsk.on, if_pos ha]
  | 11, _ => simp only [actD, Dsk.size, Dsk.on, if_pos ha]
theorem isB_of_X {w : World} {v : Value} {n : Nat} {l : List UInt8} (h : IsX w 1 v n (bvs l)) (hn : l.length = n) : IsB w v l := by
  subst hn
  obtain ⟨a, c, rfl, h1, h2, h3, h4, h5⟩ := h
  refine ⟨a, c, rfl, h1, h2, h4, ?_⟩
  rcases h5 with h5 | ⟨b, off, rfl, hc⟩
  · exact .inl h5
  · exact .inr ⟨b, off, rfl, fun i hi => by rw [hc i (by omega), bvs_get hi]⟩
theorem ddeed_armed (d : Dsk) (a : Ac) (k : Nat) (hk : k ≤ 6) : (ddeed d a k).1.armed = d.armed := by
  match k, hk with
  | 0, _ =>
    simp only [ddeed]
    repeat' split
    all_goals rfl
  | 1, _ =>
    simp only [ddeed, dwrite]
    cases tfind d.now a.name with
    | none => rfl
    | some j =>
      dsimp only
      repeat' split
      all_goals rfl
  | 2, _ =>
    simp only [ddeed, dwrite]
    cases tfind d.now a.name <;> rfl
  | 3, _ => rfl
  | 4, _ =>
    simp only [ddeed]
    cases tfind d.now a.name with
    | none => rfl
    | some j =>
      dsimp only
      split <;> rfl
  | 5, _ =>
    simp only [ddeed]
    cases tfind d.now a.name <;> rfl
  | 6, _ =>
    simp only [ddeed, dwrite]
    cases tfind d.now a.name with
    | none => rfl
    | some j =>
      dsimp only
      split <;> rfl
theorem armI_0 {o : Option Nat} (h : o ≠ some 0) : (armI o == 0) = false := by
  cases o with
  | none => rfl
  | some n =>
    have : n ≠ 0 := fun e => h (by rw [e])
    show (((n : Nat) : Int) == 0) = false
    simp
    exact this
theorem rspoil_fin {w w9 : World} {g F f : Nat} {L : RL} {R : Nat → Prop} {d : Dsk} {p p' : Fil × Value} (hw : Below w.heap.size w w9) (hA : RAt w9 g L R d) (hp : L.fps[f]? = some p) (hf : L.fil.ownBlock = some F) (hB : IsB w9 p'.2 p'.1.b) (hl : ∀ b, liesB p'.2 p'.1.b b → R b ∨ w.heap.size ≤ b) (hg : g < w.heap.size) (hF : F < w.heap.size) (hla : p'.1.lasts = p.1.lasts)
    (hst : ∀ (W : World), W.ownsRow 0 50 2 L.fil L.fps.length (row rfe L.fps) → (W.setCell ⟨F, f * 2, none⟩ p'.2).ownsRow 0 50 2 L.fil L.fps.length ((row rfe L.fps).set (f * 2) p'.2)) :
    Rs w g L R (d.setF f p'.1) (w9.setCell ⟨F, f * 2, none⟩ p'.2) := by
  have hk : Kept (fun b => L.fil.ownBlock = some b) w9 (w9.setCell ⟨F, f * 2, none⟩ p'.2) := (Kept.refl _ w9).setCell (p := ⟨F, f * 2, none⟩) (.inl hf) _
  have hlf : ∀ b, liesB p'.2 p'.1.b b → b ≠ g ∧ L.fil.ownBlock ≠ some b := fun b hb => by
    rcases hl b hb with h | h
    · exact ⟨(hA.rest.rg b h).1, (hA.rest.rg b h).2.1⟩
    · exact ⟨fun e => by omega, fun e => by rw [hf] at e; have := Option.some.inj e; omega⟩
  have hr := hA.rest.setFile hp hf hk (by
    have h := hst w9 hA.rest.fil
    have h1 := row_set rfe_len (y := p') hp 0 (by decide) p'.2 (by unfold rfe; rw [hla]; rfl)
    rw [Nat.add_zero] at h1
    rw [h1] at h
    exact h) (hB.kept hk (fun b hb hs => (hlf b hb).2 hs)) hlf
  refine ⟨{ L with fps := L.fps.set f p' }, _, ⟨hA.box.kept hk (fun e => hA.rest.fg e), hr⟩, (Kept.of_below (S := fun b => b = g ∨ L.fil.ownBlock = some b) hw (Nat.le_refl _)).trans hk (fun j hj _ => .inr hj), fun b hb => ?_, fun b hb => .inl hb⟩
  rcases hb with hb | hb
  · exact .inl hb
  · exact hl b hb
def RoAt (w : World) (g : Nat) (L : RL) (R : Nat → Prop) (d : Dsk) (a : Ac) (k : Nat) (e : Ending) (w' : World) : Prop :=
  ∃ rv, e = .returned (.tuple #[rv, .int .i64 ((actD d a k).2.2.1 : Int), .int .i64 ((actD d a k).2.2.2 : Int)]) ∧ IsB w' rv (actD d a k).2.1 ∧ Rs w g L R (actD d a k).1 w'

set_option maxRecDepth 100000 in
set_option maxHeartbeats 4000000 in
theorem rdo_down (w : World) (g : Nat) (L : RL) (R : Nat → Prop) (d : Dsk) (kk : Nat) (a : Ac) (h : RAt w g L R d) (ok : d.Ok kk) (hk : kk + 1 ≤ 90000) (hi : a.In w) (hn : a.Near) (k : Nat) (hk8 : k ≠ 8) (hk11 : k ≤ 11) (hd : d.armed = some 0) :
    Calls Try.prog 10 #[.pointer (some ⟨g, 0, none⟩), actV (k : Int) a.name a.dst a.bv a.n a.m a.pn a.pv] w (RoAt w g L R d a k) := by
  obtain ⟨w0, hw0⟩ : ∃ w0, w0 = w.alloc (.cells (actCs (k : Int) a) 44) := ⟨_, rfl⟩
  have hb0 : Below w.heap.size w w0 := by rw [hw0]; exact bel_alloc w _
  have hs0 : w0.heap.size = w.heap.size + 1 := by rw [hw0]; simp
  have hQ : Blk w0 w.heap.size (actCs (k : Int) a) 44 := by rw [hw0]; exact Blk.new w _ _
  have hnl : d.now.length ≤ 90000 := by have h1 := ok.nowN; have h2 := ok.lenN; omega
  have HA0 := Lib.hid (h.below hb0)
  have HB0 := Lib.hid hb0
  have HS0 := Lib.hid hs0
  have HQ := Lib.hid hQ
  have HO := Lib.hid ok
  have HH := Lib.hid h
  have HI := Lib.hid hi
  have HIW := Lib.hid (hi.mono hb0 (Nat.le_refl _))
  have HNE := Lib.hid hn
  have hgl := h.box.lt
  have q0 : w0.cell? ⟨w.heap.size, 0, none⟩ = some (.int .i64 (k : Int)) := hQ.cell 0 rfl
  have q1 : w0.cell? ⟨w.heap.size, 1, none⟩ = some (.string a.name) := hQ.cell 1 rfl
  have q2 : w0.cell? ⟨w.heap.size, 2, none⟩ = some (.string a.dst) := hQ.cell 2 rfl
  have q3 : w0.cell? ⟨w.heap.size, 3, none⟩ = some a.bv := hQ.cell 3 rfl
  have q4 : w0.cell? ⟨w.heap.size, 4, none⟩ = some (.int .i64 a.n) := hQ.cell 4 rfl
  have q5 : w0.cell? ⟨w.heap.size, 5, none⟩ = some (.int .i64 a.m) := hQ.cell 5 rfl
  have q6 : w0.cell? ⟨w.heap.size, 6, none⟩ = some (.int .i64 a.pn) := hQ.cell 6 rfl
  have q7 : w0.cell? ⟨w.heap.size, 7, none⟩ = some a.pv := hQ.cell 7 rfl
  obtain ⟨c0, c1, c2, c3, c4, c5⟩ := HA0.out.facts
  clear h hb0 hs0 hQ hi hn
  have h8 : ((k : Int) == 8) = false := by simp; omega
  rw [hd] at c5
  have hc5 : w0.cell? ⟨g, 5, none⟩ = some (.int .i64 0) := c5
  unfold RoAt
  rw [down_act d a k hk8 hk11 hd]
  go_enter Try.func10, Try.ntmps10
  go_upto_region 1 with fail
  rw [← hw0]
  clear hw0
  go_wp2
  exact bodyPost_ret (v := .tuple #[.slice none 0 0, .int .i64 0, .int .i64 12]) (by simp [results, Try.results10, go_sem]) rfl ⟨_, rfl, IsB.nil _, Rs.self HH.out HB0.out⟩

set_option maxRecDepth 100000 in
set_option maxHeartbeats 4000000 in
theorem rdo_0 (w : World) (g : Nat) (L : RL) (R : Nat → Prop) (d : Dsk) (kk : Nat) (a : Ac) (h : RAt w g L R d) (ok : d.Ok kk) (hk : kk + 1 ≤ 90000) (hi : a.In w) (hn : a.Near) (hd : d.armed ≠ some 0) :
    Calls Try.prog 10 #[.pointer (some ⟨g, 0, none⟩), actV 0 a.name a.dst a.bv a.n a.m a.pn a.pv] w (RoAt w g L R d a 0) := by
  obtain ⟨w0, hw0⟩ : ∃ w0, w0 = w.alloc (.cells (actCs 0 a) 44) := ⟨_, rfl⟩
  have hb0 : Below w.heap.size w w0 := by rw [hw0]; exact bel_alloc w _
  have hs0 : w0.heap.size = w.heap.size + 1 := by rw [hw0]; simp
  have hQ : Blk w0 w.heap.size (actCs 0 a) 44 := by rw [hw0]; exact Blk.new w _ _
  have hnl : d.now.length ≤ 90000 := by have h1 := ok.nowN; have h2 := ok.lenN; omega
  have HA0 := Lib.hid (h.below hb0)
  have HB0 := Lib.hid hb0
  have HS0 := Lib.hid hs0
  have HQ := Lib.hid hQ
  have HO := Lib.hid ok
  have HH := Lib.hid h
  have HI := Lib.hid hi
  have HIW := Lib.hid (hi.mono hb0 (Nat.le_refl _))
  have HNE := Lib.hid hn
  have hgl := h.box.lt
  have q0 : w0.cell? ⟨w.heap.size, 0, none⟩ = some (.int .i64 0) := hQ.cell 0 rfl
  have q1 : w0.cell? ⟨w.heap.size, 1, none⟩ = some (.string a.name) := hQ.cell 1 rfl
  have q2 : w0.cell? ⟨w.heap.size, 2, none⟩ = some (.string a.dst) := hQ.cell 2 rfl
  have q3 : w0.cell? ⟨w.heap.size, 3, none⟩ = some a.bv := hQ.cell 3 rfl
  have q4 : w0.cell? ⟨w.heap.size, 4, none⟩ = some (.int .i64 a.n) := hQ.cell 4 rfl
  have q5 : w0.cell? ⟨w.heap.size, 5, none⟩ = some (.int .i64 a.m) := hQ.cell 5 rfl
  have q6 : w0.cell? ⟨w.heap.size, 6, none⟩ = some (.int .i64 a.pn) := hQ.cell 6 rfl
  have q7 : w0.cell? ⟨w.heap.size, 7, none⟩ = some a.pv := hQ.cell 7 rfl
  obtain ⟨c0, c1, c2, c3, c4, c5⟩ := HA0.out.facts
  clear h hb0 hs0 hQ hi hn
  have hd0 := armI_0 hd
  unfold RoAt
  rw [deed_act d a 0 (by decide) hd]
  obtain ⟨CD, hCD⟩ : ∃ c, (ddeed d a 0).2 = c := ⟨_, rfl⟩
  obtain ⟨D1, hD1⟩ : ∃ x, (ddeed d a 0).1 = x := ⟨_, rfl⟩
  rw [hCD, hD1]
  obtain ⟨AI, hAI⟩ : ∃ x, armI d.armed = x := ⟨_, rfl⟩
  rw [hAI] at hd0 c5
  go_enter Try.func10, Try.ntmps10
  go_upto_region 1 with fail
  rw [← hw0]
  clear hw0
  go_wp2_with fail
  refine (rdd_0 w0 g L R d kk a HA0.out HO.out hk HIW.out HNE.out).mono ?_
  rintro e w1 ⟨rfl, hrs⟩
  rw [hCD] at ⊢
  rw [hD1] at hrs
  obtain ⟨L1, R1, hA1, hK1, hR1, hF1⟩ := hrs
  have HA1 := Lib.hid hA1
  have HT := Lib.hid (fun d2 w2 (h2 : Rs w1 g L1 R1 d2 w2) => Rs.below HB0.out (Rs.trans hK1 hR1 hF1 h2))
  obtain ⟨_, _, _, _, _, m5⟩ := hA1.facts
  have f5 := hA1.box.free 5
  clear hA1 hK1 hR1 hF1
  by_cases hz : CD = 0
  · subst hz
    have hif : (if (0 : Nat) = 0 then D1.done else D1) = D1.done := if_pos rfl
    cases hq : D1.armed with
    | none =>
      have hdn : D1.done = D1 := by unfold Dsk.done; rw [hq]; cases D1; simp_all
      have HRX := Lib.hid (show Rs w g L R D1.done w1 from by rw [hdn]; exact HT.out _ _ (Rs.self HA1.out (Below.refl _ _)))
      rw [hq] at m5
      have m5' : w1.cell? ⟨g, 5, none⟩ = some (.int .i64 (-1)) := m5
      clear m5 hq hdn
      go_wp2
      exact bodyPost_ret (v := .tuple #[.slice none 0 0, .int .i64 0, .int .i64 0]) (by simp [results, Try.results10, go_sem]) rfl ⟨_, rfl, IsB.nil _, HRX.out⟩
    | some n =>
      rw [hq] at m5
      have m5' : w1.cell? ⟨g, 5, none⟩ = some (.int .i64 (n : Int)) := m5
      by_cases hn0 : n = 0
      · have hdn : D1.done = D1 := by unfold Dsk.done; rw [hq, hn0]; cases D1; simp_all
        have HRX := Lib.hid (show Rs w g L R D1.done w1 from by rw [hdn]; exact HT.out _ _ (Rs.self HA1.out (Below.refl _ _)))
        rw [hn0] at m5'
        clear m5 hq hdn
        go_wp2
        exact bodyPost_ret (v := .tuple #[.slice none 0 0, .int .i64 0, .int .i64 0]) (by simp [results, Try.results10, go_sem]) rfl ⟨_, rfl, IsB.nil _, HRX.out⟩
      · obtain ⟨m, rfl⟩ : ∃ m, n = m + 1 := ⟨n - 1, by omega⟩
        have hdn : D1.done = { D1 with armed := some m } := by unfold Dsk.done; rw [hq]; rfl
        have HRX := Lib.hid (show Rs w g L R D1.done (w1.setCell ⟨g, 5, none⟩ (.int .i64 (m : Int))) from by
          rw [hdn]
          exact HT.out _ _ (rs_box (HA1.out.setArm (some m)) (fun b hb => .inl hb) (fun b hb => .inl hb)))
        have hgt : (0 : Int) < (m : Int) + 1 := by omega
        have hm1 : (((m + 1 : Nat) : Int)) = (m : Int) + 1 := by omega
        have hml : m < 9223372036854775807 := by
          have h1 := ddeed_armed d a 0 (by decide)
          rw [hD1, hq] at h1
          have := HO.out.arm _ h1.symm
          omega
        rw [hm1] at m5'
        clear m5 hq hdn
        go_wp2
        exact bodyPost_ret (v := .tuple #[.slice none 0 0, .int .i64 0, .int .i64 0]) (by simp [results, Try.results10, go_sem]) rfl ⟨_, rfl, IsB.nil _, HRX.out⟩
  · have hz' : ((CD : Int) == 0) = false := by simp; omega
    have hif : (if CD = 0 then D1.done else D1) = D1 := if_neg hz
    have HRX := Lib.hid (show Rs w g L R D1 w1 from HT.out _ _ (Rs.self HA1.out (Below.refl _ _)))
    go_wp2
    exact bodyPost_ret (v := .tuple #[.slice none 0 0, .int .i64 0, .int .i64 (CD : Int)]) (by simp [results, Try.results10, go_sem]) rfl ⟨_, rfl, IsB.nil _, HRX.out⟩

set_option maxRecDepth 100000 in
set_option maxHeartbeats 4000000 in
theorem rdo_1 (w : World) (g : Nat) (L : RL) (R : Nat → Prop) (d : Dsk) (kk : Nat) (a : Ac) (h : RAt w g L R d) (ok : d.Ok kk) (hk : kk + 1 ≤ 90000) (hi : a.In w) (hn : a.Near) (hd : d.armed ≠ some 0) :
    Calls Try.prog 10 #[.pointer (some ⟨g, 0, none⟩), actV 1 a.name a.dst a.bv a.n a.m a.pn a.pv] w (RoAt w g L R d a 1) := by
  obtain ⟨w0, hw0⟩ : ∃ w0, w0 = w.alloc (.cells (actCs 1 a) 44) := ⟨_, rfl⟩
  have hb0 : Below w.heap.size w w0 := by rw [hw0]; exact bel_alloc w _
  have hs0 : w0.heap.size = w.heap.size + 1 := by rw [hw0]; simp
  have hQ : Blk w0 w.heap.size (actCs 1 a) 44 := by rw [hw0]; exact Blk.new w _ _
  have hnl : d.now.length ≤ 90000 := by have h1 := ok.nowN; have h2 := ok.lenN; omega
  have HA0 := Lib.hid (h.below hb0)
  have HB0 := Lib.hid hb0
  have HS0 := Lib.hid hs0
  have HQ := Lib.hid hQ
  have HO := Lib.hid ok
  have HH := Lib.hid h
  have HI := Lib.hid hi
  have HIW := Lib.hid (hi.mono hb0 (Nat.le_refl _))
  have HNE := Lib.hid hn
  have hgl := h.box.lt
  have q0 : w0.cell? ⟨w.heap.size, 0, none⟩ = some (.int .i64 1) := hQ.cell 0 rfl
  have q1 : w0.cell? ⟨w.heap.size, 1, none⟩ = some (.string a.name) := hQ.cell 1 rfl
  have q2 : w0.cell? ⟨w.heap.size, 2, none⟩ = some (.string a.dst) := hQ.cell 2 rfl
  have q3 : w0.cell? ⟨w.heap.size, 3, none⟩ = some a.bv := hQ.cell 3 rfl
  have q4 : w0.cell? ⟨w.heap.size, 4, none⟩ = some (.int .i64 a.n) := hQ.cell 4 rfl
  have q5 : w0.cell? ⟨w.heap.size, 5, none⟩ = some (.int .i64 a.m) := hQ.cell 5 rfl
  have q6 : w0.cell? ⟨w.heap.size, 6, none⟩ = some (.int .i64 a.pn) := hQ.cell 6 rfl
  have q7 : w0.cell? ⟨w.heap.size, 7, none⟩ = some a.pv := hQ.cell 7 rfl
  obtain ⟨c0, c1, c2, c3, c4, c5⟩ := HA0.out.facts
  clear h hb0 hs0 hQ hi hn
  have hd0 := armI_0 hd
  unfold RoAt
  rw [deed_act d a 1 (by decide) hd]
  obtain ⟨CD, hCD⟩ : ∃ c, (ddeed d a 1).2 = c := ⟨_, rfl⟩
  obtain ⟨D1, hD1⟩ : ∃ x, (ddeed d a 1).1 = x := ⟨_, rfl⟩
  rw [hCD, hD1]
  obtain ⟨AI, hAI⟩ : ∃ x, armI d.armed = x := ⟨_, rfl⟩
  rw [hAI] at hd0 c5
  go_enter Try.func10, Try.ntmps10
  go_upto_region 1 with fail
  rw [← hw0]
  clear hw0
  go_wp2_with fail
  refine (rdd_1 w0 g L R d kk a HA0.out HO.out hk HIW.out HNE.out).mono ?_
  rintro e w1 ⟨rfl, hrs⟩
  rw [hCD] at ⊢
  rw [hD1] at hrs
  obtain ⟨L1, R1, hA1, hK1, hR1, hF1⟩ := hrs
  have HA1 := Lib.hid hA1
  have HT := Lib.hid (fun d2 w2 (h2 : Rs w1 g L1 R1 d2 w2) => Rs.below HB0.out (Rs.trans hK1 hR1 hF1 h2))
  obtain ⟨_, _, _, _, _, m5⟩ := hA1.facts
  have f5 := hA1.box.free 5
  clear hA1 hK1 hR1 hF1
  by_cases hz : CD = 0
  · subst hz
    have hif : (if (0 : Nat) = 0 then D1.done else D1) = D1.done := if_pos rfl
    cases hq : D1.armed with
    | none =>
      have hdn : D1.done = D1 := by unfold Dsk.done; rw [hq]; cases D1; simp_all
      have HRX := Lib.hid (show Rs w g L R D1.done w1 from by rw [hdn]; exact HT.out _ _ (Rs.self HA1.out (Below.refl _ _)))
      rw [hq] at m5
      have m5' : w1.cell? ⟨g, 5, none⟩ = some (.int .i64 (-1)) := m5
      clear m5 hq hdn
      go_wp2
      exact bodyPost_ret (v := .tuple #[.slice none 0 0, .int .i64 0, .int .i64 0]) (by simp [results, Try.results10, go_sem]) rfl ⟨_, rfl, IsB.nil _, HRX.out⟩
    | some n =>
      rw [hq] at m5
      have m5' : w1.cell? ⟨g, 5, none⟩ = some (.int .i64 (n : Int)) := m5
      by_cases hn0 : n = 0
      · have hdn : D1.done = D1 := by unfold Dsk.done; rw [hq, hn0]; cases D1; simp_all
        have HRX := Lib.hid (show Rs w g L R D1.done w1 from by rw [hdn]; exact HT.out _ _ (Rs.self HA1.out (Below.refl _ _)))
        rw [hn0] at m5'
        clear m5 hq hdn
        go_wp2
        exact bodyPost_ret (v := .tuple #[.slice none 0 0, .int .i64 0, .int .i64 0]) (by simp [results, Try.results10, go_sem]) rfl ⟨_, rfl, IsB.nil _, HRX.out⟩
      · obtain ⟨m, rfl⟩ : ∃ m, n = m + 1 := ⟨n - 1, by omega⟩
        have hdn : D1.done = { D1 with armed := some m } := by unfold Dsk.done; rw [hq]; rfl
        have HRX := Lib.hid (show Rs w g L R D1.done (w1.setCell ⟨g, 5, none⟩ (.int .i64 (m : Int))) from by
          rw [hdn]
          exact HT.out _ _ (rs_box (HA1.out.setArm (some m)) (fun b hb => .inl hb) (fun b hb => .inl hb)))
        have hgt : (0 : Int) < (m : Int) + 1 := by omega
        have hm1 : (((m + 1 : Nat) : Int)) = (m : Int) + 1 := by omega
        have hml : m < 9223372036854775807 := by
          have h1 := ddeed_armed d a 1 (by decide)
          rw [hD1, hq] at h1
          have := HO.out.arm _ h1.symm
          omega
        rw [hm1] at m5'
        clear m5 hq hdn
        go_wp2
        exact bodyPost_ret (v := .tuple #[.slice none 0 0, .int .i64 0, .int .i64 0]) (by simp [results, Try.results10, go_sem]) rfl ⟨_, rfl, IsB.nil _, HRX.out⟩
  · have hz' : ((CD : Int) == 0) = false := by simp; omega
    have hif : (if CD = 0 then D1.done else D1) = D1 := if_neg hz
    have HRX := Lib.hid (show Rs w g L R D1 w1 from HT.out _ _ (Rs.self HA1.out (Below.refl _ _)))
    go_wp2
    exact bodyPost_ret (v := .tuple #[.slice none 0 0, .int .i64 0, .int .i64 (CD : Int)]) (by simp [results, Try.results10, go_sem]) rfl ⟨_, rfl, IsB.nil _, HRX.out⟩

set_option maxRecDepth 100000 in
set_option maxHeartbeats 4000000 in
theorem rdo_2 (w : World) (g : Nat) (L : RL) (R : Nat → Prop) (d : Dsk) (kk : Nat) (a : Ac) (h : RAt w g L R d) (ok : d.Ok kk) (hk : kk + 1 ≤ 90000) (hi : a.In w) (hn : a.Near) (hd : d.armed ≠ some 0) :
    Calls Try.prog 10 #[.pointer (some ⟨g, 0, none⟩), actV 2 a.name a.dst a.bv a.n a.m a.pn a.pv] w (RoAt w g L R d a 2) := by
  obtain ⟨w0, hw0⟩ : ∃ w0, w0 = w.alloc (.cells (actCs 2 a) 44) := ⟨_, rfl⟩
  have hb0 : Below w.heap.size w w0 := by rw [hw0]; exact bel_alloc w _
  have hs0 : w0.heap.size = w.heap.size + 1 := by rw [hw0]; simp
  have hQ : Blk w0 w.heap.size (actCs 2 a) 44 := by rw [hw0]; exact Blk.new w _ _
  have hnl : d.now.length ≤ 90000 := by have h1 := ok.nowN; have h2 := ok.lenN; omega
  have HA0 := Lib.hid (h.below hb0)
  have HB0 := Lib.hid hb0
  have HS0 := Lib.hid hs0
  have HQ := Lib.hid hQ
  have HO := Lib.hid ok
  have HH := Lib.hid h
  have HI := Lib.hid hi
  have HIW := Lib.hid (hi.mono hb0 (Nat.le_refl _))
  have HNE := Lib.hid hn
  have hgl := h.box.lt
  have q0 : w0.cell? ⟨w.heap.size, 0, none⟩ = some (.int .i64 2) := hQ.cell 0 rfl
  have q1 : w0.cell? ⟨w.heap.size, 1, none⟩ = some (.string a.name) := hQ.cell 1 rfl
  have q2 : w0.cell? ⟨w.heap.size, 2, none⟩ = some (.string a.dst) := hQ.cell 2 rfl
  have q3 : w0.cell? ⟨w.heap.size, 3, none⟩ = some a.bv := hQ.cell 3 rfl
  have q4 : w0.cell? ⟨w.heap.size, 4, none⟩ = some (.int .i64 a.n) := hQ.cell 4 rfl
  have q5 : w0.cell? ⟨w.heap.size, 5, none⟩ = some (.int .i64 a.m) := hQ.cell 5 rfl
  have q6 : w0.cell? ⟨w.heap.size, 6, none⟩ = some (.int .i64 a.pn) := hQ.cell 6 rfl
  have q7 : w0.cell? ⟨w.heap.size, 7, none⟩ = some a.pv := hQ.cell 7 rfl
  obtain ⟨c0, c1, c2, c3, c4, c5⟩ := HA0.out.facts
  clear h hb0 hs0 hQ hi hn
  have hd0 := armI_0 hd
  unfold RoAt
  rw [deed_act d a 2 (by decide) hd]
  obtain ⟨CD, hCD⟩ : ∃ c, (ddeed d a 2).2 = c := ⟨_, rfl⟩
  obtain ⟨D1, hD1⟩ : ∃ x, (ddeed d a 2).1 = x := ⟨_, rfl⟩
  rw [hCD, hD1]
  obtain ⟨AI, hAI⟩ : ∃ x, armI d.armed = x := ⟨_, rfl⟩
  rw [hAI] at hd0 c5
  go_enter Try.func10, Try.ntmps10
  go_upto_region 1 with fail
  rw [← hw0]
  clear hw0
  go_wp2_with fail
  refine (rdd_2 w0 g L R d kk a HA0.out HO.out hk HIW.out HNE.out).mono ?_
  rintro e w1 ⟨rfl, hrs⟩
  rw [hCD] at ⊢
  rw [hD1] at hrs
  obtain ⟨L1, R1, hA1, hK1, hR1, hF1⟩ := hrs
  have HA1 := Lib.hid hA1
  have HT := Lib.hid (fun d2 w2 (h2 : Rs w1 g L1 R1 d2 w2) => Rs.below HB0.out (Rs.trans hK1 hR1 hF1 h2))
  obtain ⟨_, _, _, _, _, m5⟩ := hA1.facts
  have f5 := hA1.box.free 5
  clear hA1 hK1 hR1 hF1
  by_cases hz : CD = 0
  · subst hz
    have hif : (if (0 : Nat) = 0 then D1.done else D1) = D1.done := if_pos rfl
    cases hq : D1.armed with
    | none =>
      have hdn : D1.done = D1 := by unfold Dsk.done; rw [hq]; cases D1; simp_all
      have HRX := Lib.hid (show Rs w g L R D1.done w1 from by rw [hdn]; exact HT.out _ _ (Rs.self HA1.out (Below.refl _ _)))
      rw [hq] at m5
      have m5' : w1.cell? ⟨g, 5, none⟩ = some (.int .i64 (-1)) := m5
      clear m5 hq hdn
      go_wp2
      exact bodyPost_ret (v := .tuple #[.slice none 0 0, .int .i64 0, .int .i64 0]) (by simp [results, Try.results10, go_sem]) rfl ⟨_, rfl, IsB.nil _, HRX.out⟩
    | some n =>
      rw [hq] at m5
      have m5' : w1.cell? ⟨g, 5, none⟩ = some (.int .i64 (n : Int)) := m5
      by_cases hn0 : n = 0
      · have hdn : D1.done = D1 := by unfold Dsk.done; rw [hq, hn0]; cases D1; simp_all
        have HRX := Lib.hid (show Rs w g L R D1.done w1 from by rw [hdn]; exact HT.out _ _ (Rs.self HA1.out (Below.refl _ _)))
        rw [hn0] at m5'
        clear m5 hq hdn
        go_wp2
        exact bodyPost_ret (v := .tuple #[.slice none 0 0, .int .i64 0, .int .i64 0]) (by simp [results, Try.results10, go_sem]) rfl ⟨_, rfl, IsB.nil _, HRX.out⟩
      · obtain ⟨m, rfl⟩ : ∃ m, n = m + 1 := ⟨n - 1, by omega⟩
        have hdn : D1.done = { D1 with armed := some m } := by unfold Dsk.done; rw [hq]; rfl
        have HRX := Lib.hid (show Rs w g L R D1.done (w1.setCell ⟨g, 5, none⟩ (.int .i64 (m : Int))) from by
          rw [hdn]
          exact HT.out _ _ (rs_box (HA1.out.setArm (some m)) (fun b hb => .inl hb) (fun b hb => .inl hb)))
        have hgt : (0 : Int) < (m : Int) + 1 := by omega
        have hm1 : (((m + 1 : Nat) : Int)) = (m : Int) + 1 := by omega
        have hml : m < 9223372036854775807 := by
          have h1 := ddeed_armed d a 2 (by decide)
          rw [hD1, hq] at h1
          have := HO.out.arm _ h1.symm
          omega
        rw [hm1] at m5'
        clear m5 hq hdn
        go_wp2
        exact bodyPost_ret (v := .tuple #[.slice none 0 0, .int .i64 0, .int .i64 0]) (by simp [results, Try.results10, go_sem]) rfl ⟨_, rfl, IsB.nil _, HRX.out⟩
  · have hz' : ((CD : Int) == 0) = false := by simp; omega
    have hif : (if CD = 0 then D1.done else D1) = D1 := if_neg hz
    have HRX := Lib.hid (show Rs w g L R D1 w1 from HT.out _ _ (Rs.self HA1.out (Below.refl _ _)))
    go_wp2
    exact bodyPost_ret (v := .tuple #[.slice none 0 0, .int .i64 0, .int .i64 (CD : Int)]) (by simp [results, Try.results10, go_sem]) rfl ⟨_, rfl, IsB.nil _, HRX.out⟩

set_option maxRecDepth 100000 in
set_option maxHeartbeats 4000000 in
theorem rdo_3 (w : World) (g : Nat) (L : RL) (R : Nat → Prop) (d : Dsk) (kk : Nat) (a : Ac) (h : RAt w g L R d) (ok : d.Ok kk) (hk : kk + 1 ≤ 90000) (hi : a.In w) (hn : a.Near) (hd : d.armed ≠ some 0) :
    Calls Try.prog 10 #[.pointer (some ⟨g, 0, none⟩), actV 3 a.name a.dst a.bv a.n a.m a.pn a.pv] w (RoAt w g L R d a 3) := by
  obtain ⟨w0, hw0⟩ : ∃ w0, w0 = w.alloc (.cells (actCs 3 a) 44) := ⟨_, rfl⟩
  have hb0 : Below w.heap.size w w0 := by rw [hw0]; exact bel_alloc w _
  have hs0 : w0.heap.size = w.heap.size + 1 := by rw [hw0]; simp
  have hQ : Blk w0 w.heap.size (actCs 3 a) 44 := by rw [hw0]; exact Blk.new w _ _
  have hnl : d.now.length ≤ 90000 := by have h1 := ok.nowN; have h2 := ok.lenN; omega
  have HA0 := Lib.hid (h.below hb0)
  have HB0 := Lib.hid hb0
  have HS0 := Lib.hid hs0
  have HQ := Lib.hid hQ
  have HO := Lib.hid ok
  have HH := Lib.hid h
  have HI := Lib.hid hi
  have HIW := Lib.hid (hi.mono hb0 (Nat.le_refl _))
  have HNE := Lib.hid hn
  have hgl := h.box.lt
  have q0 : w0.cell? ⟨w.heap.size, 0, none⟩ = some (.int .i64 3) := hQ.cell 0 rfl
  have q1 : w0.cell? ⟨w.heap.size, 1, none⟩ = some (.string a.name) := hQ.cell 1 rfl
  have q2 : w0.cell? ⟨w.heap.size, 2, none⟩ = some (.string a.dst) := hQ.cell 2 rfl
  have q3 : w0.cell? ⟨w.heap.size, 3, none⟩ = some a.bv := hQ.cell 3 rfl
  have q4 : w0.cell? ⟨w.heap.size, 4, none⟩ = some (.int .i64 a.n) := hQ.cell 4 rfl
  have q5 : w0.cell? ⟨w.heap.size, 5, none⟩ = some (.int .i64 a.m) := hQ.cell 5 rfl
  have q6 : w0.cell? ⟨w.heap.size, 6, none⟩ = some (.int .i64 a.pn) := hQ.cell 6 rfl
  have q7 : w0.cell? ⟨w.heap.size, 7, none⟩ = some a.pv := hQ.cell 7 rfl
  obtain ⟨c0, c1, c2, c3, c4, c5⟩ := HA0.out.facts
  clear h hb0 hs0 hQ hi hn
  have hd0 := armI_0 hd
  unfold RoAt
  rw [deed_act d a 3 (by decide) hd]
  obtain ⟨CD, hCD⟩ : ∃ c, (ddeed d a 3).2 = c := ⟨_, rfl⟩
  obtain ⟨D1, hD1⟩ : ∃ x, (ddeed d a 3).1 = x := ⟨_, rfl⟩
  rw [hCD, hD1]
  obtain ⟨AI, hAI⟩ : ∃ x, armI d.armed = x := ⟨_, rfl⟩
  rw [hAI] at hd0 c5
  go_enter Try.func10, Try.ntmps10
  go_upto_region 1 with fail
  rw [← hw0]
  clear hw0
  go_wp2_with fail
  refine (rdd_3 w0 g L R d kk a HA0.out HO.out hk HIW.out HNE.out).mono ?_
  rintro e w1 ⟨rfl, hrs⟩
  rw [hCD] at ⊢
  rw [hD1] at hrs
  obtain ⟨L1, R1, hA1, hK1, hR1, hF1⟩ := hrs
  have HA1 := Lib.hid hA1
  have HT := Lib.hid (fun d2 w2 (h2 : Rs w1 g L1 R1 d2 w2) => Rs.below HB0.out (Rs.trans hK1 hR1 hF1 h2))
  obtain ⟨_, _, _, _, _, m5⟩ := hA1.facts
  have f5 := hA1.box.free 5
  clear hA1 hK1 hR1 hF1
  by_cases hz : CD = 0
  · subst hz
    have hif : (if (0 : Nat) = 0 then D1.done else D1) = D1.done := if_pos rfl
    cases hq : D1.armed with
    | none =>
      have hdn : D1.done = D1 := by unfold Dsk.done; rw [hq]; cases D1; simp_all
      have HRX := Lib.hid (show Rs w g L R D1.done w1 from by rw [hdn]; exact HT.out _ _ (Rs.self HA1.out (Below.refl _ _)))
      rw [hq] at m5
      have m5' : w1.cell? ⟨g, 5, none⟩ = some (.int .i64 (-1)) := m5
      clear m5 hq hdn
      go_wp2
      exact bodyPost_ret (v := .tuple #[.slice none 0 0, .int .i64 0, .int .i64 0]) (by simp [results, Try.results10, go_sem]) rfl ⟨_, rfl, IsB.nil _, HRX.out⟩
    | some n =>
      rw [hq] at m5
      have m5' : w1.cell? ⟨g, 5, none⟩ = some (.int .i64 (n : Int)) := m5
      by_cases hn0 : n = 0
      · have hdn : D1.done = D1 := by unfold Dsk.done; rw [hq, hn0]; cases D1; simp_all
        have HRX := Lib.hid (show Rs w g L R D1.done w1 from by rw [hdn]; exact HT.out _ _ (Rs.self HA1.out (Below.refl _ _)))
        rw [hn0] at m5'
        clear m5 hq hdn
        go_wp2
        exact bodyPost_ret (v := .tuple #[.slice none 0 0, .int .i64 0, .int .i64 0]) (by simp [results, Try.results10, go_sem]) rfl ⟨_, rfl, IsB.nil _, HRX.out⟩
      · obtain ⟨m, rfl⟩ : ∃ m, n = m + 1 := ⟨n - 1, by omega⟩
        have hdn : D1.done = { D1 with armed := some m } := by unfold Dsk.done; rw [hq]; rfl
        have HRX := Lib.hid (show Rs w g L R D1.done (w1.setCell ⟨g, 5, none⟩ (.int .i64 (m : Int))) from by
          rw [hdn]
          exact HT.out _ _ (rs_box (HA1.out.setArm (some m)) (fun b hb => .inl hb) (fun b hb => .inl hb)))
        have hgt : (0 : Int) < (m : Int) + 1 := by omega
        have hm1 : (((m + 1 : Nat) : Int)) = (m : Int) + 1 := by omega
        have hml : m < 9223372036854775807 := by
          have h1 := ddeed_armed d a 3 (by decide)
          rw [hD1, hq] at h1
          have := HO.out.arm _ h1.symm
          omega
        rw [hm1] at m5'
        clear m5 hq hdn
        go_wp2
        exact bodyPost_ret (v := .tuple #[.slice none 0 0, .int .i64 0, .int .i64 0]) (by simp [results, Try.results10, go_sem]) rfl ⟨_, rfl, IsB.nil _, HRX.out⟩
  · have hz' : ((CD : Int) == 0) = false := by simp; omega
    have hif : (if CD = 0 then D1.done else D1) = D1 := if_neg hz
    have HRX := Lib.hid (show Rs w g L R D1 w1 from HT.out _ _ (Rs.self HA1.out (Below.refl _ _)))
    go_wp2
    exact bodyPost_ret (v := .tuple #[.slice none 0 0, .int .i64 0, .int .i64 (CD : Int)]) (by simp [results, Try.results10, go_sem]) rfl ⟨_, rfl, IsB.nil _, HRX.out⟩

set_option maxRecDepth 100000 in
set_option maxHeartbeats 4000000 in
theorem rdo_4 (w : World) (g : Nat) (L : RL) (R : Nat → Prop) (d : Dsk) (kk : Nat) (a : Ac) (h : RAt w g L R d) (ok : d.Ok kk) (hk : kk + 1 ≤ 90000) (hi : a.In w) (hn : a.Near) (hd : d.armed ≠ some 0) :
    Calls Try.prog 10 #[.pointer (some ⟨g, 0, none⟩), actV 4 a.name a.dst a.bv a.n a.m a.pn a.pv] w (RoAt w g L R d a 4) := by
  obtain ⟨w0, hw0⟩ : ∃ w0, w0 = w.alloc (.cells (actCs 4 a) 44) := ⟨_, rfl⟩
  have hb0 : Below w.heap.size w w0 := by rw [hw0]; exact bel_alloc w _
  have hs0 : w0.heap.size = w.heap.size + 1 := by rw [hw0]; simp
  have hQ : Blk w0 w.heap.size (actCs 4 a) 44 := by rw [hw0]; exact Blk.new w _ _
  have hnl : d.now.length ≤ 90000 := by have h1 := ok.nowN; have h2 := ok.lenN; omega
  have HA0 := Lib.hid (h.below hb0)
  have HB0 := Lib.hid hb0
  have HS0 := Lib.hid hs0
  have HQ := Lib.hid hQ
  have HO := Lib.hid ok
  have HH := Lib.hid h
  have HI := Lib.hid hi
  have HIW := Lib.hid (hi.mono hb0 (Nat.le_refl _))
  have HNE := Lib.hid hn
  have hgl := h.box.lt
  have q0 : w0.cell? ⟨w.heap.size, 0, none⟩ = some (.int .i64 4) := hQ.cell 0 rfl
  have q1 : w0.cell? ⟨w.heap.size, 1, none⟩ = some (.string a.name) := hQ.cell 1 rfl
  have q2 : w0.cell? ⟨w.heap.size, 2, none⟩ = some (.string a.dst) := hQ.cell 2 rfl
  have q3 : w0.cell? ⟨w.heap.size, 3, none⟩ = some a.bv := hQ.cell 3 rfl
  have q4 : w0.cell? ⟨w.heap.size, 4, none⟩ = some (.int .i64 a.n) := hQ.cell 4 rfl
  have q5 : w0.cell? ⟨w.heap.size, 5, none⟩ = some (.int .i64 a.m) := hQ.cell 5 rfl
  have q6 : w0.cell? ⟨w.heap.size, 6, none⟩ = some (.int .i64 a.pn) := hQ.cell 6 rfl
  have q7 : w0.cell? ⟨w.heap.size, 7, none⟩ = some a.pv := hQ.cell 7 rfl
  obtain ⟨c0, c1, c2, c3, c4, c5⟩ := HA0.out.facts
  clear h hb0 hs0 hQ hi hn
  have hd0 := armI_0 hd
  unfold RoAt
  rw [deed_act d a 4 (by decide) hd]
  obtain ⟨CD, hCD⟩ : ∃ c, (ddeed d a 4).2 = c := ⟨_, rfl⟩
  obtain ⟨D1, hD1⟩ : ∃ x, (ddeed d a 4).1 = x := ⟨_, rfl⟩
  rw [hCD, hD1]
  obtain ⟨AI, hAI⟩ : ∃ x, armI d.armed = x := ⟨_, rfl⟩
  rw [hAI] at hd0 c5
  go_enter Try.func10, Try.ntmps10
  go_upto_region 1 with fail
  rw [← hw0]
  clear hw0
  go_wp2_with fail
  refine (rdd_4 w0 g L R d kk a HA0.out HO.out hk HIW.out HNE.out).mono ?_
  rintro e w1 ⟨rfl, hrs⟩
  rw [hCD] at ⊢
  rw [hD1] at hrs
  obtain ⟨L1, R1, hA1, hK1, hR1, hF1⟩ := hrs
  have HA1 := Lib.hid hA1
  have HT := Lib.hid (fun d2 w2 (h2 : Rs w1 g L1 R1 d2 w2) => Rs.below HB0.out (Rs.trans hK1 hR1 hF1 h2))
  obtain ⟨_, _, _, _, _, m5⟩ := hA1.facts
  have f5 := hA1.box.free 5
  clear hA1 hK1 hR1 hF1
  by_cases hz : CD = 0
  · subst hz
    have hif : (if (0 : Nat) = 0 then D1.done else D1) = D1.done := if_pos rfl
    cases hq : D1.armed with
    | none =>
      have hdn : D1.done = D1 := by unfold Dsk.done; rw [hq]; cases D1; simp_all
      have HRX := Lib.hid (show Rs w g L R D1.done w1 from by rw [hdn]; exact HT.out _ _ (Rs.self HA1.out (Below.refl _ _)))
      rw [hq] at m5
      have m5' : w1.cell? ⟨g, 5, none⟩ = some (.int .i64 (-1)) := m5
      clear m5 hq hdn
      go_wp2
      exact bodyPost_ret (v := .tuple #[.slice none 0 0, .int .i64 0, .int .i64 0]) (by simp [results, Try.results10, go_sem]) rfl ⟨_, rfl, IsB.nil _, HRX.out⟩
    | some n =>
      rw [hq] at m5
      have m5' : w1.cell? ⟨g, 5, none⟩ = some (.int .i64 (n : Int)) := m5
      by_cases hn0 : n = 0
      · have hdn : D1.done = D1 := by unfold Dsk.done; rw [hq, hn0]; cases D1; simp_all
        have HRX := Lib.hid (show Rs w g L R D1.done w1 from by rw [hdn]; exact HT.out _ _ (Rs.self HA1.out (Below.refl _ _)))
        rw [hn0] at m5'
        clear m5 hq hdn
        go_wp2
        exact bodyPost_ret (v := .tuple #[.slice none 0 0, .int .i64 0, .int .i64 0]) (by simp [results, Try.results10, go_sem]) rfl ⟨_, rfl, IsB.nil _, HRX.out⟩
      · obtain ⟨m, rfl⟩ : ∃ m, n = m + 1 := ⟨n - 1, by omega⟩
        have hdn : D1.done = { D1 with armed := some m } := by unfold Dsk.done; rw [hq]; rfl
        have HRX := Lib.hid (show Rs w g L R D1.done (w1.setCell ⟨g, 5, none⟩ (.int .i64 (m : Int))) from by
          rw [hdn]
          exact HT.out _ _ (rs_box (HA1.out.setArm (some m)) (fun b hb => .inl hb) (fun b hb => .inl hb)))
        have hgt : (0 : Int) < (m : Int) + 1 := by omega
        have hm1 : (((m + 1 : Nat) : Int)) = (m : Int) + 1 := by omega
        have hml : m < 9223372036854775807 := by
          have h1 := ddeed_armed d a 4 (by decide)
          rw [hD1, hq] at h1
          have := HO.out.arm _ h1.symm
          omega
        rw [hm1] at m5'
        clear m5 hq hdn
        go_wp2
        exact bodyPost_ret (v := .tuple #[.slice none 0 0, .int .i64 0, .int .i64 0]) (by simp [results, Try.results10, go_sem]) rfl ⟨_, rfl, IsB.nil _, HRX.out⟩
  · have hz' : ((CD : Int) == 0) = false := by simp; omega
    have hif : (if CD = 0 then D1.done else D1) = D1 := if_neg hz
    have HRX := Lib.hid (show Rs w g L R D1 w1 from HT.out _ _ (Rs.self HA1.out (Below.refl _ _)))
    go_wp2
    exact bodyPost_ret (v := .tuple #[.slice none 0 0, .int .i64 0, .int .i64 (CD : Int)]) (by simp [results, Try.results10, go_sem]) rfl ⟨_, rfl, IsB.nil _, HRX.out⟩

set_option maxRecDepth 100000 in
set_option maxHeartbeats 4000000 in
theorem rdo_5 (w : World) (g : Nat) (L : RL) (R : Nat → Prop) (d : Dsk) (kk : Nat) (a : Ac) (h : RAt w g L R d) (ok : d.Ok kk) (hk : kk + 1 ≤ 90000) (hi : a.In w) (hn : a.Near) (hd : d.armed ≠ some 0) :
    Calls Try.prog 10 #[.pointer (some ⟨g, 0, none⟩), actV 5 a.name a.dst a.bv a.n a.m a.pn a.pv] w (RoAt w g L R d a 5) := by
  obtain ⟨w0, hw0⟩ : ∃ w0, w0 = w.alloc (.cells (actCs 5 a) 44) := ⟨_, rfl⟩
  have hb0 : Below w.heap.size w w0 := by rw [hw0]; exact bel_alloc w _
  have hs0 : w0.heap.size = w.heap.size + 1 := by rw [hw0]; simp
  have hQ : Blk w0 w.heap.size (actCs 5 a) 44 := by rw [hw0]; exact Blk.new w _ _
  have hnl : d.now.length ≤ 90000 := by have h1 := ok.nowN; have h2 := ok.lenN; omega
  have HA0 := Lib.hid (h.below hb0)
  have HB0 := Lib.hid hb0
  have HS0 := Lib.hid hs0
  have HQ := Lib.hid hQ
  have HO := Lib.hid ok
  have HH := Lib.hid h
  have HI := Lib.hid hi
  have HIW := Lib.hid (hi.mono hb0 (Nat.le_refl _))
  have HNE := Lib.hid hn
  have hgl := h.box.lt
  have q0 : w0.cell? ⟨w.heap.size, 0, none⟩ = some (.int .i64 5) := hQ.cell 0 rfl
  have q1 : w0.cell? ⟨w.heap.size, 1, none⟩ = some (.string a.name) := hQ.cell 1 rfl
  have q2 : w0.cell? ⟨w.heap.size, 2, none⟩ = some (.string a.dst) := hQ.cell 2 rfl
  have q3 : w0.cell? ⟨w.heap.size, 3, none⟩ = some a.bv := hQ.cell 3 rfl
  have q4 : w0.cell? ⟨w.heap.size, 4, none⟩ = some (.int .i64 a.n) := hQ.cell 4 rfl
  have q5 : w0.cell? ⟨w.heap.size, 5, none⟩ = some (.int .i64 a.m) := hQ.cell 5 rfl
  have q6 : w0.cell? ⟨w.heap.size, 6, none⟩ = some (.int .i64 a.pn) := hQ.cell 6 rfl
  have q7 : w0.cell? ⟨w.heap.size, 7, none⟩ = some a.pv := hQ.cell 7 rfl
  obtain ⟨c0, c1, c2, c3, c4, c5⟩ := HA0.out.facts
  clear h hb0 hs0 hQ hi hn
  have hd0 := armI_0 hd
  unfold RoAt
  rw [deed_act d a 5 (by decide) hd]
  obtain ⟨CD, hCD⟩ : ∃ c, (ddeed d a 5).2 = c := ⟨_, rfl⟩
  obtain ⟨D1, hD1⟩ : ∃ x, (ddeed d a 5).1 = x := ⟨_, rfl⟩
  rw [hCD, hD1]
  obtain ⟨AI, hAI⟩ : ∃ x, armI d.armed = x := ⟨_, rfl⟩
  rw [hAI] at hd0 c5
  go_enter Try.func10, Try.ntmps10
  go_upto_region 1 with fail
  rw [← hw0]
  clear hw0
  go_wp2_with fail
  refine (rdd_5 w0 g L R d kk a HA0.out HO.out hk HIW.out HNE.out).mono ?_
  rintro e w1 ⟨rfl, hrs⟩
  rw [hCD] at ⊢
  rw [hD1] at hrs
  obtain ⟨L1, R1, hA1, hK1, hR1, hF1⟩ := hrs
  have HA1 := Lib.hid hA1
  have HT := Lib.hid (fun d2 w2 (h2 : Rs w1 g L1 R1 d2 w2) => Rs.below HB0.out (Rs.trans hK1 hR1 hF1 h2))
  obtain ⟨_, _, _, _, _, m5⟩ := hA1.facts
  have f5 := hA1.box.free 5
  clear hA1 hK1 hR1 hF1
  by_cases hz : CD = 0
  · subst hz
    have hif : (if (0 : Nat) = 0 then D1.done else D1) = D1.done := if_pos rfl
    cases hq : D1.armed with
    | none =>
      have hdn : D1.done = D1 := by unfold Dsk.done; rw [hq]; cases D1; simp_all
      have HRX := Lib.hid (show Rs w g L R D1.done w1 from by rw [hdn]; exact HT.out _ _ (Rs.self HA1.out (Below.refl _ _)))
      rw [hq] at m5
      have m5' : w1.cell? ⟨g, 5, none⟩ = some (.int .i64 (-1)) := m5
      clear m5 hq hdn
      go_wp2
      exact bodyPost_ret (v := .tuple #[.slice none 0 0, .int .i64 0, .int .i64 0]) (by simp [results, Try.results10, go_sem]) rfl ⟨_, rfl, IsB.nil _, HRX.out⟩
    | some n =>
      rw [hq] at m5
      have m5' : w1.cell? ⟨g, 5, none⟩ = some (.int .i64 (n : Int)) := m5
      by_cases hn0 : n = 0
      · have hdn : D1.done = D1 := by unfold Dsk.done; rw [hq, hn0]; cases D1; simp_all
        have HRX := Lib.hid (show Rs w g L R D1.done w1 from by rw [hdn]; exact HT.out _ _ (Rs.self HA1.out (Below.refl _ _)))
        rw [hn0] at m5'
        clear m5 hq hdn
        go_wp2
        exact bodyPost_ret (v := .tuple #[.slice none 0 0, .int .i64 0, .int .i64 0]) (by simp [results, Try.results10, go_sem]) rfl ⟨_, rfl, IsB.nil _, HRX.out⟩
      · obtain ⟨m, rfl⟩ : ∃ m, n = m + 1 := ⟨n - 1, by omega⟩
        have hdn : D1.done = { D1 with armed := some m } := by unfold Dsk.done; rw [hq]; rfl
        have HRX := Lib.hid (show Rs w g L R D1.done (w1.setCell ⟨g, 5, none⟩ (.int .i64 (m : Int))) from by
          rw [hdn]
          exact HT.out _ _ (rs_box (HA1.out.setArm (some m)) (fun b hb => .inl hb) (fun b hb => .inl hb)))
        have hgt : (0 : Int) < (m : Int) + 1 := by omega
        have hm1 : (((m + 1 : Nat) : Int)) = (m : Int) + 1 := by omega
        have hml : m < 9223372036854775807 := by
          have h1 := ddeed_armed d a 5 (by decide)
          rw [hD1, hq] at h1
          have := HO.out.arm _ h1.symm
          omega
        rw [hm1] at m5'
        clear m5 hq hdn
        go_wp2
        exact bodyPost_ret (v := .tuple #[.slice none 0 0, .int .i64 0, .int .i64 0]) (by simp [results, Try.results10, go_sem]) rfl ⟨_, rfl, IsB.nil _, HRX.out⟩
  · have hz' : ((CD : Int) == 0) = false := by simp; omega
    have hif : (if CD = 0 then D1.done else D1) = D1 := if_neg hz
    have HRX := Lib.hid (show Rs w g L R D1 w1 from HT.out _ _ (Rs.self HA1.out (Below.refl _ _)))
    go_wp2
    exact bodyPost_ret (v := .tuple #[.slice none 0 0, .int .i64 0, .int .i64 (CD : Int)]) (by simp [results, Try.results10, go_sem]) rfl ⟨_, rfl, IsB.nil _, HRX.out⟩

set_option maxRecDepth 100000 in
set_option maxHeartbeats 4000000 in
theorem rdo_6 (w : World) (g : Nat) (L : RL) (R : Nat → Prop) (d : Dsk) (kk : Nat) (a : Ac) (h : RAt w g L R d) (ok : d.Ok kk) (hk : kk + 1 ≤ 90000) (hi : a.In w) (hn : a.Near) (hd : d.armed ≠ some 0) :
    Calls Try.prog 10 #[.pointer (some ⟨g, 0, none⟩), actV 6 a.name a.dst a.bv a.n a.m a.pn a.pv] w (RoAt w g L R d a 6) := by
  obtain ⟨w0, hw0⟩ : ∃ w0, w0 = w.alloc (.cells (actCs 6 a) 44) := ⟨_, rfl⟩
  have hb0 : Below w.heap.size w w0 := by rw [hw0]; exact bel_alloc w _
  have hs0 : w0.heap.size = w.heap.size + 1 := by rw [hw0]; simp
  have hQ : Blk w0 w.heap.size (actCs 6 a) 44 := by rw [hw0]; exact Blk.new w _ _
  have hnl : d.now.length ≤ 90000 := by have h1 := ok.nowN; have h2 := ok.lenN; omega
  have HA0 := Lib.hid (h.below hb0)
  have HB0 := Lib.hid hb0
  have HS0 := Lib.hid hs0
  have HQ := Lib.hid hQ
  have HO := Lib.hid ok
  have HH := Lib.hid h
  have HI := Lib.hid hi
  have HIW := Lib.hid (hi.mono hb0 (Nat.le_refl _))
  have HNE := Lib.hid hn
  have hgl := h.box.lt
  have q0 : w0.cell? ⟨w.heap.size, 0, none⟩ = some (.int .i64 6) := hQ.cell 0 rfl
  have q1 : w0.cell? ⟨w.heap.size, 1, none⟩ = some (.string a.name) := hQ.cell 1 rfl
  have q2 : w0.cell? ⟨w.heap.size, 2, none⟩ = some (.string a.dst) := hQ.cell 2 rfl
  have q3 : w0.cell? ⟨w.heap.size, 3, none⟩ = some a.bv := hQ.cell 3 rfl
  have q4 : w0.cell? ⟨w.heap.size, 4, none⟩ = some (.int .i64 a.n) := hQ.cell 4 rfl
  have q5 : w0.cell? ⟨w.heap.size, 5, none⟩ = some (.int .i64 a.m) := hQ.cell 5 rfl
  have q6 : w0.cell? ⟨w.heap.size, 6, none⟩ = some (.int .i64 a.pn) := hQ.cell 6 rfl
  have q7 : w0.cell? ⟨w.heap.size, 7, none⟩ = some a.pv := hQ.cell 7 rfl
  obtain ⟨c0, c1, c2, c3, c4, c5⟩ := HA0.out.facts
  clear h hb0 hs0 hQ hi hn
  have hd0 := armI_0 hd
  unfold RoAt
  rw [deed_act d a 6 (by decide) hd]
  obtain ⟨CD, hCD⟩ : ∃ c, (ddeed d a 6).2 = c := ⟨_, rfl⟩
  obtain ⟨D1, hD1⟩ : ∃ x, (ddeed d a 6).1 = x := ⟨_, rfl⟩
  rw [hCD, hD1]
  obtain ⟨AI, hAI⟩ : ∃ x, armI d.armed = x := ⟨_, rfl⟩
  rw [hAI] at hd0 c5
  go_enter Try.func10, Try.ntmps10
  go_upto_region 1 with fail
  rw [← hw0]
  clear hw0
  go_wp2_with fail
  refine (rdd_6 w0 g L R d kk a HA0.out HO.out hk HIW.out HNE.out).mono ?_
  rintro e w1 ⟨rfl, hrs⟩
  rw [hCD] at ⊢
  rw [hD1] at hrs
  obtain ⟨L1, R1, hA1, hK1, hR1, hF1⟩ := hrs
  have HA1 := Lib.hid hA1
  have HT := Lib.hid (fun d2 w2 (h2 : Rs w1 g L1 R1 d2 w2) => Rs.below HB0.out (Rs.trans hK1 hR1 hF1 h2))
  obtain ⟨_, _, _, _, _, m5⟩ := hA1.facts
  have f5 := hA1.box.free 5
  clear hA1 hK1 hR1 hF1
  by_cases hz : CD = 0
  · subst hz
    have hif : (if (0 : Nat) = 0 then D1.done else D1) = D1.done := if_pos rfl
    cases hq : D1.armed with
    | none =>
      have hdn : D1.done = D1 := by unfold Dsk.done; rw [hq]; cases D1; simp_all
      have HRX := Lib.hid (show Rs w g L R D1.done w1 from by rw [hdn]; exact HT.out _ _ (Rs.self HA1.out (Below.refl _ _)))
      rw [hq] at m5
      have m5' : w1.cell? ⟨g, 5, none⟩ = some (.int .i64 (-1)) := m5
      clear m5 hq hdn
      go_wp2
      exact bodyPost_ret (v := .tuple #[.slice none 0 0, .int .i64 0, .int .i64 0]) (by simp [results, Try.results10, go_sem]) rfl ⟨_, rfl, IsB.nil _, HRX.out⟩
    | some n =>
      rw [hq] at m5
      have m5' : w1.cell? ⟨g, 5, none⟩ = some (.int .i64 (n : Int)) := m5
      by_cases hn0 : n = 0
      · have hdn : D1.done = D1 := by unfold Dsk.done; rw [hq, hn0]; cases D1; simp_all
        have HRX := Lib.hid (show Rs w g L R D1.done w1 from by rw [hdn]; exact HT.out _ _ (Rs.self HA1.out (Below.refl _ _)))
        rw [hn0] at m5'
        clear m5 hq hdn
        go_wp2
        exact bodyPost_ret (v := .tuple #[.slice none 0 0, .int .i64 0, .int .i64 0]) (by simp [results, Try.results10, go_sem]) rfl ⟨_, rfl, IsB.nil _, HRX.out⟩
      · obtain ⟨m, rfl⟩ : ∃ m, n = m + 1 := ⟨n - 1, by omega⟩
        have hdn : D1.done = { D1 with armed := some m } := by unfold Dsk.done; rw [hq]; rfl
        have HRX := Lib.hid (show Rs w g L R D1.done (w1.setCell ⟨g, 5, none⟩ (.int .i64 (m : Int))) from by
          rw [hdn]
          exact HT.out _ _ (rs_box (HA1.out.setArm (some m)) (fun b hb => .inl hb) (fun b hb => .inl hb)))
        have hgt : (0 : Int) < (m : Int) + 1 := by omega
        have hm1 : (((m + 1 : Nat) : Int)) = (m : Int) + 1 := by omega
        have hml : m < 9223372036854775807 := by
          have h1 := ddeed_armed d a 6 (by decide)
          rw [hD1, hq] at h1
          have := HO.out.arm _ h1.symm
          omega
        rw [hm1] at m5'
        clear m5 hq hdn
        go_wp2
        exact bodyPost_ret (v := .tuple #[.slice none 0 0, .int .i64 0, .int .i64 0]) (by simp [results, Try.results10, go_sem]) rfl ⟨_, rfl, IsB.nil _, HRX.out⟩
  · have hz' : ((CD : Int) == 0) = false := by simp; omega
    have hif : (if CD = 0 then D1.done else D1) = D1 := if_neg hz
    have HRX := Lib.hid (show Rs w g L R D1 w1 from HT.out _ _ (Rs.self HA1.out (Below.refl _ _)))
    go_wp2
    exact bodyPost_ret (v := .tuple #[.slice none 0 0, .int .i64 0, .int .i64 (CD : Int)]) (by simp [results, Try.results10, go_sem]) rfl ⟨_, rfl, IsB.nil _, HRX.out⟩

set_option maxRecDepth 100000 in
set_option maxHeartbeats 4000000 in
theorem rdo_7 (w : World) (g : Nat) (L : RL) (R : Nat → Prop) (d : Dsk) (kk : Nat) (a : Ac) (h : RAt w g L R d) (ok : d.Ok kk) (hk : kk + 1 ≤ 90000) (hi : a.In w) (hn : a.Near) (hd : d.armed ≠ some 0) :
    Calls Try.prog 10 #[.pointer (some ⟨g, 0, none⟩), actV 7 a.name a.dst a.bv a.n a.m a.pn a.pv] w (RoAt w g L R d a 7) := by
  obtain ⟨w0, hw0⟩ : ∃ w0, w0 = w.alloc (.cells (actCs 7 a) 44) := ⟨_, rfl⟩
  have hb0 : Below w.heap.size w w0 := by rw [hw0]; exact bel_alloc w _
  have hs0 : w0.heap.size = w.heap.size + 1 := by rw [hw0]; simp
  have hQ : Blk w0 w.heap.size (actCs 7 a) 44 := by rw [hw0]; exact Blk.new w _ _
  have hnl : d.now.length ≤ 90000 := by have h1 := ok.nowN; have h2 := ok.lenN; omega
  have HA0 := Lib.hid (h.below hb0)
  have HB0 := Lib.hid hb0
  have HS0 := Lib.hid hs0
  have HQ := Lib.hid hQ
  have HO := Lib.hid ok
  have HH := Lib.hid h
  have HI := Lib.hid hi
  have HIW := Lib.hid (hi.mono hb0 (Nat.le_refl _))
  have HNE := Lib.hid hn
  have hgl := h.box.lt
  have q0 : w0.cell? ⟨w.heap.size, 0, none⟩ = some (.int .i64 7) := hQ.cell 0 rfl
  have q1 : w0.cell? ⟨w.heap.size, 1, none⟩ = some (.string a.name) := hQ.cell 1 rfl
  have q2 : w0.cell? ⟨w.heap.size, 2, none⟩ = some (.string a.dst) := hQ.cell 2 rfl
  have q3 : w0.cell? ⟨w.heap.size, 3, none⟩ = some a.bv := hQ.cell 3 rfl
  have q4 : w0.cell? ⟨w.heap.size, 4, none⟩ = some (.int .i64 a.n) := hQ.cell 4 rfl
  have q5 : w0.cell? ⟨w.heap.size, 5, none⟩ = some (.int .i64 a.m) := hQ.cell 5 rfl
  have q6 : w0.cell? ⟨w.heap.size, 6, none⟩ = some (.int .i64 a.pn) := hQ.cell 6 rfl
  have q7 : w0.cell? ⟨w.heap.size, 7, none⟩ = some a.pv := hQ.cell 7 rfl
  obtain ⟨c0, c1, c2, c3, c4, c5⟩ := HA0.out.facts
  clear h hb0 hs0 hQ hi hn
  have hd0 := armI_0 hd
  have f5 := HA0.out.box.free 5
  have hact : actD d a 7 = ((d.arm a.n).1, [], 0, (d.arm a.n).2) := rfl
  unfold RoAt
  rw [hact]
  unfold Dsk.arm
  rw [if_neg hd]
  obtain ⟨AI, hAI⟩ : ∃ x, armI d.armed = x := ⟨_, rfl⟩
  rw [hAI] at hd0 c5
  by_cases hneg : a.n < 0
  · rw [if_pos hneg]
    go_enter Try.func10, Try.ntmps10
    go_upto_region 1 with fail
    rw [← hw0]
    clear hw0
    go_wp2
    exact bodyPost_ret (v := .tuple #[.slice none 0 0, .int .i64 0, .int .i64 1]) (by simp [results, Try.results10, go_sem]) rfl ⟨_, rfl, IsB.nil _, Rs.self HH.out HB0.out⟩
  rw [if_neg hneg]
  obtain ⟨m, hm⟩ := Int.eq_ofNat_of_zero_le (show 0 ≤ a.n by omega)
  rw [hm] at q4
  have hm0 : ¬ (m : Int) < 0 := by omega
  have hmn : a.n.toNat = m := by omega
  have HRX := Lib.hid (show Rs w g L R { d with armed := some m } (w0.setCell ⟨g, 5, none⟩ (.int .i64 (m : Int))) from Rs.below HB0.out (rs_box (HA0.out.setArm (some m)) (fun b hb => .inl hb) (fun b hb => .inl hb)))
  rw [hmn]
  unfold actCs at hw0
  rw [hm] at hw0 ⊢
  clear hm hmn
  go_enter Try.func10, Try.ntmps10
  go_upto_region 1 with fail
  rw [← hw0]
  clear hw0
  go_wp2
  exact bodyPost_ret (v := .tuple #[.slice none 0 0, .int .i64 0, .int .i64 0]) (by simp [results, Try.results10, go_sem]) rfl ⟨_, rfl, IsB.nil _, HRX.out⟩

set_option maxRecDepth 100000 in
set_option maxHeartbeats 4000000 in
theorem rdo_8 (w : World) (g : Nat) (L : RL) (R : Nat → Prop) (d : Dsk) (kk : Nat) (a : Ac) (h : RAt w g L R d) (ok : d.Ok kk) (hk : kk + 1 ≤ 90000) (hi : a.In w) (hn : a.Near) (hpv : ∀ b, liesX a.pv a.pf.length b → ¬ (b = g ∨ L.fil.ownBlock = some b)) :
    Calls Try.prog 10 #[.pointer (some ⟨g, 0, none⟩), actV 8 a.name a.dst a.bv a.n a.m a.pn a.pv] w (RoAt w g L R d a 8) := by
  obtain ⟨w0, hw0⟩ : ∃ w0, w0 = w.alloc (.cells (actCs 8 a) 44) := ⟨_, rfl⟩
  have hb0 : Below w.heap.size w w0 := by rw [hw0]; exact bel_alloc w _
  have hs0 : w0.heap.size = w.heap.size + 1 := by rw [hw0]; simp
  have hQ : Blk w0 w.heap.size (actCs 8 a) 44 := by rw [hw0]; exact Blk.new w _ _
  have hnl : d.now.length ≤ 90000 := by have h1 := ok.nowN; have h2 := ok.lenN; omega
  have HA0 := Lib.hid (h.below hb0)
  have HB0 := Lib.hid hb0
  have HS0 := Lib.hid hs0
  have HQ := Lib.hid hQ
  have HO := Lib.hid ok
  have HH := Lib.hid h
  have HI := Lib.hid hi
  have HIW := Lib.hid (hi.mono hb0 (Nat.le_refl _))
  have HNE := Lib.hid hn
  have hgl := h.box.lt
  have q0 : w0.cell? ⟨w.heap.size, 0, none⟩ = some (.int .i64 8) := hQ.cell 0 rfl
  have q1 : w0.cell? ⟨w.heap.size, 1, none⟩ = some (.string a.name) := hQ.cell 1 rfl
  have q2 : w0.cell? ⟨w.heap.size, 2, none⟩ = some (.string a.dst) := hQ.cell 2 rfl
  have q3 : w0.cell? ⟨w.heap.size, 3, none⟩ = some a.bv := hQ.cell 3 rfl
  have q4 : w0.cell? ⟨w.heap.size, 4, none⟩ = some (.int .i64 a.n) := hQ.cell 4 rfl
  have q5 : w0.cell? ⟨w.heap.size, 5, none⟩ = some (.int .i64 a.m) := hQ.cell 5 rfl
  have q6 : w0.cell? ⟨w.heap.size, 6, none⟩ = some (.int .i64 a.pn) := hQ.cell 6 rfl
  have q7 : w0.cell? ⟨w.heap.size, 7, none⟩ = some a.pv := hQ.cell 7 rfl
  obtain ⟨c0, c1, c2, c3, c4, c5⟩ := HA0.out.facts
  clear h hb0 hs0 hQ hi hn
  have hact : actD d a 8 = (d.crash a.pn a.pf, [], 0, 0) := rfl
  unfold RoAt
  rw [hact]
  go_enter Try.func10, Try.ntmps10
  go_upto_region 1 with fail
  rw [← hw0]
  clear hw0
  go_wp2_with fail
  refine (rcrash_any w0 g L R d kk a.pn a.pv a.pf HA0.out HO.out (by omega) HIW.out.p HNE.out.pf hpv).mono ?_
  rintro e w1 ⟨rfl, hrs⟩
  have HRX := Lib.hid (Rs.below HB0.out hrs)
  clear hrs
  go_wp2
  exact bodyPost_ret (v := .tuple #[.slice none 0 0, .int .i64 0, .int .i64 0]) (by simp [results, Try.results10, go_sem]) rfl ⟨_, rfl, IsB.nil _, HRX.out⟩

set_option maxRecDepth 100000 in
set_option maxHeartbeats 4000000 in
theorem rdo_11 (w : World) (g : Nat) (L : RL) (R : Nat → Prop) (d : Dsk) (kk : Nat) (a : Ac) (h : RAt w g L R d) (ok : d.Ok kk) (hk : kk + 1 ≤ 90000) (hi : a.In w) (hn : a.Near) (hd : d.armed ≠ some 0) :
    Calls Try.prog 10 #[.pointer (some ⟨g, 0, none⟩), actV 11 a.name a.dst a.bv a.n a.m a.pn a.pv] w (RoAt w g L R d a 11) := by
  obtain ⟨w0, hw0⟩ : ∃ w0, w0 = w.alloc (.cells (actCs 11 a) 44) := ⟨_, rfl⟩
  have hb0 : Below w.heap.size w w0 := by rw [hw0]; exact bel_alloc w _
  have hs0 : w0.heap.size = w.heap.size + 1 := by rw [hw0]; simp
  have hQ : Blk w0 w.heap.size (actCs 11 a) 44 := by rw [hw0]; exact Blk.new w _ _
  have hnl : d.now.length ≤ 90000 := by have h1 := ok.nowN; have h2 := ok.lenN; omega
  have HA0 := Lib.hid (h.below hb0)
  have HB0 := Lib.hid hb0
  have HS0 := Lib.hid hs0
  have HQ := Lib.hid hQ
  have HO := Lib.hid ok
  have HH := Lib.hid h
  have HI := Lib.hid hi
  have HIW := Lib.hid (hi.mono hb0 (Nat.le_refl _))
  have HNE := Lib.hid hn
  have hgl := h.box.lt
  have q0 : w0.cell? ⟨w.heap.size, 0, none⟩ = some (.int .i64 11) := hQ.cell 0 rfl
  have q1 : w0.cell? ⟨w.heap.size, 1, none⟩ = some (.string a.name) := hQ.cell 1 rfl
  have q2 : w0.cell? ⟨w.heap.size, 2, none⟩ = some (.string a.dst) := hQ.cell 2 rfl
  have q3 : w0.cell? ⟨w.heap.size, 3, none⟩ = some a.bv := hQ.cell 3 rfl
  have q4 : w0.cell? ⟨w.heap.size, 4, none⟩ = some (.int .i64 a.n) := hQ.cell 4 rfl
  have q5 : w0.cell? ⟨w.heap.size, 5, none⟩ = some (.int .i64 a.m) := hQ.cell 5 rfl
  have q6 : w0.cell? ⟨w.heap.size, 6, none⟩ = some (.int .i64 a.pn) := hQ.cell 6 rfl
  have q7 : w0.cell? ⟨w.heap.size, 7, none⟩ = some a.pv := hQ.cell 7 rfl
  obtain ⟨c0, c1, c2, c3, c4, c5⟩ := HA0.out.facts
  clear h hb0 hs0 hQ hi hn
  have hd0 := armI_0 hd
  obtain ⟨AI, hAI⟩ : ∃ x, armI d.armed = x := ⟨_, rfl⟩
  rw [hAI] at hd0 c5
  unfold RoAt
  cases hf : tfind d.now a.name with
  | none =>
    have hact : actD d a 11 = (d, [], 0, 6) := by simp only [actD, Dsk.size, Dsk.on, if_neg hd, hf]
    rw [hact]
    go_enter Try.func10, Try.ntmps10
    go_upto_region 1 with fail
    rw [← hw0]
    clear hw0
    go_upto_region 16 with fail
    go_still_tail 6, (by kernel_rfl)
    change wpList _ _ _ _ _ w0.drew
    go_wp2_with fail
    refine (rfind_any L.now d.now a.name _ (HA0.out.below (Below.refl _ _).drew).rest.now (by omega)).mono ?_
    rintro e wf ⟨rfl, rfl⟩
    rw [hf, show fnum none = -1 from rfl]
    go_wp2
    exact bodyPost_ret (v := .tuple #[.slice none 0 0, .int .i64 0, .int .i64 6]) (by simp [results, Try.results10, go_sem]) rfl ⟨_, rfl, IsB.nil _, Rs.self HH.out HB0.out.drew⟩
  | some j =>
    have hfj := (Ok.file HO.out hf).1
    obtain ⟨fv, hfv, hfB⟩ := HA0.out.rest.fileAt hfj
    have hflen := (Ok.fat HO.out hfj).2
    obtain ⟨F, hF, hidx, hc, hfr, _⟩ := indexAt_own HA0.out.rest.fil 33 _ Try.underlying33 Try.sizeRFil j (by rw [rfps_len HA0.out.rest]; exact hfj)
    have f0 := hc 0 (by decide)
    have f1 := hc 1 (by decide)
    rw [row_get rfe_len hfv _ (by decide)] at f0 f1
    simp only [rfe, List.getElem?_cons_zero, List.getElem?_cons_succ, Nat.add_zero] at f0 f1
    obtain ⟨FB, hFB⟩ : ∃ b, (fat d.files j).b = b := ⟨_, rfl⟩
    obtain ⟨FN, hFN⟩ : ∃ n, FB.length = n := ⟨_, rfl⟩
    obtain ⟨LA, hLA⟩ : ∃ n, (fat d.files j).lasts = n := ⟨_, rfl⟩
    obtain ⟨fx, fz, rfl, hfz, hfm⟩ := hfB.at_len (n := FN) (by rw [hFB]; exact hFN)
    rw [hFB, hFN] at hflen
    rw [hLA] at f1
    rw [hFB] at hfB
    have hlen := fun W => len_X (P := Try.prog) (isX_of_B hfB) 37 3 _ Try.underlying37 W
    rw [hFN] at hlen
    have f0d : w0.drew.cell? ⟨F, j * 2, none⟩ = some (.slice fx FN fz) := f0
    have HFBB := Lib.hid hfB
    have HFB := Lib.hid hFB
    have HFN := Lib.hid hFN
    have HLA := Lib.hid hLA
    have HFV := Lib.hid hfv
    have HFF := Lib.hid hF
    have HST := Lib.hid (fun u v => rwrite_st (F := F) (f := j) u v HA0.out.rest.fil hF)
    have hFl : F < w0.heap.size := (HA0.out.rest.fil.lt F hF).2
    clear hc hfB hFB hFN hLA hfv hF
    have hact : actD d a 11 = (d, [], FN, 0) := by simp only [actD, Dsk.size, Dsk.on, if_neg hd, hf, HFB.out, HFN.out]
    rw [hact]
    go_enter Try.func10, Try.ntmps10
    go_upto_region 1 with fail
    rw [← hw0]
    clear hw0
    go_upto_region 16 with fail
    go_still_tail 6, (by kernel_rfl)
    change wpList _ _ _ _ _ w0.drew
    go_wp2_with fail
    refine (rfind_any L.now d.now a.name _ (HA0.out.below (Below.refl _ _).drew).rest.now (by omega)).mono ?_
    rintro e wf ⟨rfl, rfl⟩
    rw [hf, show fnum (some j) = (j : Int) from rfl]
    go_wp2
    exact bodyPost_ret (v := .tuple #[.slice none 0 0, .int .i64 (FN : Int), .int .i64 0]) (by simp [results, Try.results10, go_sem]) rfl ⟨_, rfl, IsB.nil _, Rs.self HH.out HB0.out.drew⟩

set_option maxRecDepth 100000 in
set_option maxHeartbeats 4000000 in
theorem rdo_10 (w : World) (g : Nat) (L : RL) (R : Nat → Prop) (d : Dsk) (kk : Nat) (a : Ac) (h : RAt w g L R d) (ok : d.Ok kk) (hk : kk + 1 ≤ 90000) (hi : a.In w) (hn : a.Near) (hd : d.armed ≠ some 0) :
    Calls Try.prog 10 #[.pointer (some ⟨g, 0, none⟩), actV 10 a.name a.dst a.bv a.n a.m a.pn a.pv] w (RoAt w g L R d a 10) := by
  obtain ⟨w0, hw0⟩ : ∃ w0, w0 = w.alloc (.cells (actCs 10 a) 44) := ⟨_, rfl⟩
  have hb0 : Below w.heap.size w w0 := by rw [hw0]; exact bel_alloc w _
  have hs0 : w0.heap.size = w.heap.size + 1 := by rw [hw0]; simp
  have hQ : Blk w0 w.heap.size (actCs 10 a) 44 := by rw [hw0]; exact Blk.new w _ _
  have hnl : d.now.length ≤ 90000 := by have h1 := ok.nowN; have h2 := ok.lenN; omega
  have HA0 := Lib.hid (h.below hb0)
  have HB0 := Lib.hid hb0
  have HS0 := Lib.hid hs0
  have HQ := Lib.hid hQ
  have HO := Lib.hid ok
  have HH := Lib.hid h
  have HI := Lib.hid hi
  have HIW := Lib.hid (hi.mono hb0 (Nat.le_refl _))
  have HNE := Lib.hid hn
  have hgl := h.box.lt
  have q0 : w0.cell? ⟨w.heap.size, 0, none⟩ = some (.int .i64 10) := hQ.cell 0 rfl
  have q1 : w0.cell? ⟨w.heap.size, 1, none⟩ = some (.string a.name) := hQ.cell 1 rfl
  have q2 : w0.cell? ⟨w.heap.size, 2, none⟩ = some (.string a.dst) := hQ.cell 2 rfl
  have q3 : w0.cell? ⟨w.heap.size, 3, none⟩ = some a.bv := hQ.cell 3 rfl
  have q4 : w0.cell? ⟨w.heap.size, 4, none⟩ = some (.int .i64 a.n) := hQ.cell 4 rfl
  have q5 : w0.cell? ⟨w.heap.size, 5, none⟩ = some (.int .i64 a.m) := hQ.cell 5 rfl
  have q6 : w0.cell? ⟨w.heap.size, 6, none⟩ = some (.int .i64 a.pn) := hQ.cell 6 rfl
  have q7 : w0.cell? ⟨w.heap.size, 7, none⟩ = some a.pv := hQ.cell 7 rfl
  obtain ⟨c0, c1, c2, c3, c4, c5⟩ := HA0.out.facts
  clear h hb0 hs0 hQ hi hn
  have hd0 := armI_0 hd
  obtain ⟨AI, hAI⟩ : ∃ x, armI d.armed = x := ⟨_, rfl⟩
  rw [hAI] at hd0 c5
  unfold RoAt
  cases hf : tfind d.now a.name with
  | none =>
    have hact : actD d a 10 = (d, [], 0, 6) := by simp only [actD, Dsk.read, Dsk.on, if_neg hd, hf]
    rw [hact]
    go_enter Try.func10, Try.ntmps10
    go_upto_region 1 with fail
    rw [← hw0]
    clear hw0
    go_upto_region 16 with fail
    go_still_tail 6, (by kernel_rfl)
    change wpList _ _ _ _ _ w0.drew
    go_wp2_with fail
    refine (rfind_any L.now d.now a.name _ (HA0.out.below (Below.refl _ _).drew).rest.now (by omega)).mono ?_
    rintro e wf ⟨rfl, rfl⟩
    rw [hf, show fnum none = -1 from rfl]
    go_wp2
    exact bodyPost_ret (v := .tuple #[.slice none 0 0, .int .i64 0, .int .i64 6]) (by simp [results, Try.results10, go_sem]) rfl ⟨_, rfl, IsB.nil _, Rs.self HH.out HB0.out.drew⟩
  | some j =>
    have hfj := (Ok.file HO.out hf).1
    obtain ⟨fv, hfv, hfB⟩ := HA0.out.rest.fileAt hfj
    have hflen := (Ok.fat HO.out hfj).2
    obtain ⟨F, hF, hidx, hc, hfr, _⟩ := indexAt_own HA0.out.rest.fil 33 _ Try.underlying33 Try.sizeRFil j (by rw [rfps_len HA0.out.rest]; exact hfj)
    have f0 := hc 0 (by decide)
    have f1 := hc 1 (by decide)
    rw [row_get rfe_len hfv _ (by decide)] at f0 f1
    simp only [rfe, List.getElem?_cons_zero, List.getElem?_cons_succ, Nat.add_zero] at f0 f1
    obtain ⟨FB, hFB⟩ : ∃ b, (fat d.files j).b = b := ⟨_, rfl⟩
    obtain ⟨FN, hFN⟩ : ∃ n, FB.length = n := ⟨_, rfl⟩
    obtain ⟨LA, hLA⟩ : ∃ n, (fat d.files j).lasts = n := ⟨_, rfl⟩
    obtain ⟨fx, fz, rfl, hfz, hfm⟩ := hfB.at_len (n := FN) (by rw [hFB]; exact hFN)
    rw [hFB, hFN] at hflen
    rw [hLA] at f1
    rw [hFB] at hfB
    have hlen := fun W => len_X (P := Try.prog) (isX_of_B hfB) 37 3 _ Try.underlying37 W
    rw [hFN] at hlen
    have f0d : w0.drew.cell? ⟨F, j * 2, none⟩ = some (.slice fx FN fz) := f0
    have HFBB := Lib.hid hfB
    have HFB := Lib.hid hFB
    have HFN := Lib.hid hFN
    have HLA := Lib.hid hLA
    have HFV := Lib.hid hfv
    have HFF := Lib.hid hF
    have HST := Lib.hid (fun u v => rwrite_st (F := F) (f := j) u v HA0.out.rest.fil hF)
    have hFl : F < w0.heap.size := (HA0.out.rest.fil.lt F hF).2
    clear hc hfB hFB hFN hLA hfv hF
    have hact0 : actD d a 10 = (d, (if a.n < 0 ∨ a.m < 0 then ([], 1) else if (FN : Int) < a.n + a.m then ([], 3) else ((FB.drop a.n.toNat).take a.m.toNat, 0)).1, 0, (if a.n < 0 ∨ a.m < 0 then (([] : List UInt8), 1) else if (FN : Int) < a.n + a.m then ([], 3) else ((FB.drop a.n.toNat).take a.m.toNat, 0)).2) := by
      simp only [actD, Dsk.read, Dsk.on, if_neg hd, hf, HFB.out, HFN.out]
    rw [hact0]
    clear hact0
    by_cases hn0 : a.n < 0
    · rw [if_pos (.inl hn0)]
      go_enter Try.func10, Try.ntmps10
      go_upto_region 1 with fail
      rw [← hw0]
      clear hw0
      go_upto_region 16 with fail
      go_still_tail 6, (by kernel_rfl)
      change wpList _ _ _ _ _ w0.drew
      go_wp2_with fail
      refine (rfind_any L.now d.now a.name _ (HA0.out.below (Below.refl _ _).drew).rest.now (by omega)).mono ?_
      rintro e wf ⟨rfl, rfl⟩
      rw [hf, show fnum (some j) = (j : Int) from rfl]
      go_wp2
      exact bodyPost_ret (v := .tuple #[.slice none 0 0, .int .i64 0, .int .i64 1]) (by simp [results, Try.results10, go_sem]) rfl ⟨_, rfl, IsB.nil _, Rs.self HH.out HB0.out.drew⟩
    by_cases hm0 : a.m < 0
    · rw [if_pos (.inr hm0)]
      go_enter Try.func10, Try.ntmps10
      go_upto_region 1 with fail
      rw [← hw0]
      clear hw0
      go_upto_region 16 with fail
      go_still_tail 6, (by kernel_rfl)
      change wpList _ _ _ _ _ w0.drew
      go_wp2_with fail
      refine (rfind_any L.now d.now a.name _ (HA0.out.below (Below.refl _ _).drew).rest.now (by omega)).mono ?_
      rintro e wf ⟨rfl, rfl⟩
      rw [hf, show fnum (some j) = (j : Int) from rfl]
      go_wp2
      exact bodyPost_ret (v := .tuple #[.slice none 0 0, .int .i64 0, .int .i64 1]) (by simp [results, Try.results10, go_sem]) rfl ⟨_, rfl, IsB.nil _, Rs.self HH.out HB0.out.drew⟩
    obtain ⟨n, hn⟩ := Int.eq_ofNat_of_zero_le (show 0 ≤ a.n by omega)
    obtain ⟨m, hm⟩ := Int.eq_ofNat_of_zero_le (show 0 ≤ a.m by omega)
    have hlm := HI.out.m.2
    rw [if_neg (by omega), hn, hm]
    unfold actCs at hw0
    rw [hn, hm] at hw0
    rw [hn] at q4 hn0
    rw [hm] at q5 hm0 hlm
    clear hn hm
    by_cases hgt : (FN : Int) < (n : Int)
    · rw [if_pos (by omega)]
      go_enter Try.func10, Try.ntmps10
      go_upto_region 1 with fail
      rw [← hw0]
      clear hw0
      go_upto_region 16 with fail
      go_still_tail 6, (by kernel_rfl)
      change wpList _ _ _ _ _ w0.drew
      go_wp2_with fail
      refine (rfind_any L.now d.now a.name _ (HA0.out.below (Below.refl _ _).drew).rest.now (by omega)).mono ?_
      rintro e wf ⟨rfl, rfl⟩
      rw [hf, show fnum (some j) = (j : Int) from rfl]
      go_wp2
      exact bodyPost_ret (v := .tuple #[.slice none 0 0, .int .i64 0, .int .i64 3]) (by simp [results, Try.results10, go_sem]) rfl ⟨_, rfl, IsB.nil _, Rs.self HH.out HB0.out.drew⟩
    obtain ⟨rem, hrem⟩ : ∃ r, n + r = FN := ⟨FN - n, by omega⟩
    have hsub : (FN : Int) - (n : Int) = (rem : Int) := by omega
    by_cases hgt2 : (rem : Int) < (m : Int)
    · rw [if_pos (by omega)]
      go_enter Try.func10, Try.ntmps10
      go_upto_region 1 with fail
      rw [← hw0]
      clear hw0
      go_upto_region 16 with fail
      go_still_tail 6, (by kernel_rfl)
      change wpList _ _ _ _ _ w0.drew
      go_wp2_with fail
      refine (rfind_any L.now d.now a.name _ (HA0.out.below (Below.refl _ _).drew).rest.now (by omega)).mono ?_
      rintro e wf ⟨rfl, rfl⟩
      rw [hf, show fnum (some j) = (j : Int) from rfl]
      go_wp2
      exact bodyPost_ret (v := .tuple #[.slice none 0 0, .int .i64 0, .int .i64 3]) (by simp [results, Try.results10, go_sem]) rfl ⟨_, rfl, IsB.nil _, Rs.self HH.out HB0.out.drew⟩
    rw [if_neg (by omega), Int.toNat_natCast, Int.toNat_natCast]
    obtain ⟨Q, hQ⟩ : ∃ q, n + m = q := ⟨_, rfl⟩
    have hQi : (n : Int) + (m : Int) = (Q : Int) := by omega
    have hX := isX_of_B HFBB.out
    rw [HFN.out] at hX
    have hsl := slice_lh_X (P := Try.prog) hX 37 5 Try.underlying37 Try.sizeU8b n Q (by omega) (by omega)
    obtain ⟨sv, hsv⟩ : ∃ sv, sliced fx n Q fz 1 = sv := ⟨_, rfl⟩
    have HIS := Lib.hid (show IsB w0.drew sv ((FB.drop n).take m) from by
      have h := hX.piece (lo := n) (hi := Q) (by omega) (by omega)
      rw [hsv] at h
      have e : ((bvs FB).drop (n * 1)).take ((Q - n) * 1) = bvs ((FB.drop n).take m) := by
        rw [Nat.mul_one, Nat.mul_one, show Q - n = m from by omega]
        simp [bvs]
      rw [e] at h
      exact isB_of_X h (by rw [List.length_take, List.length_drop, HFN.out]; omega))
    rw [hsv] at hsl
    clear hX hsv hQ hrem
    go_enter Try.func10, Try.ntmps10
    go_upto_region 1 with fail
    rw [← hw0]
    clear hw0
    go_upto_region 16 with fail
    go_still_tail 6, (by kernel_rfl)
    change wpList _ _ _ _ _ w0.drew
    go_wp2_with fail
    refine (rfind_any L.now d.now a.name _ (HA0.out.below (Below.refl _ _).drew).rest.now (by omega)).mono ?_
    rintro e wf ⟨rfl, rfl⟩
    rw [hf, show fnum (some j) = (j : Int) from rfl]
    go_wp2
    exact bodyPost_ret (v := .tuple #[sv, .int .i64 0, .int .i64 0]) (by simp [results, Try.results10, go_sem]) rfl ⟨_, rfl, HIS.out, Rs.self HH.out HB0.out.drew⟩

set_option maxRecDepth 100000 in
set_option maxHeartbeats 4000000 in
theorem rdo_9 (w : World) (g : Nat) (L : RL) (R : Nat → Prop) (d : Dsk) (kk : Nat) (a : Ac) (h : RAt w g L R d) (ok : d.Ok kk) (hk : kk + 1 ≤ 90000) (hi : a.In w) (hn : a.Near) (hd : d.armed ≠ some 0) :
    Calls Try.prog 10 #[.pointer (some ⟨g, 0, none⟩), actV 9 a.name a.dst a.bv a.n a.m a.pn a.pv] w (RoAt w g L R d a 9) := by
  obtain ⟨w0, hw0⟩ : ∃ w0, w0 = w.alloc (.cells (actCs 9 a) 44) := ⟨_, rfl⟩
  have hb0 : Below w.heap.size w w0 := by rw [hw0]; exact bel_alloc w _
  have hs0 : w0.heap.size = w.heap.size + 1 := by rw [hw0]; simp
  have hQ : Blk w0 w.heap.size (actCs 9 a) 44 := by rw [hw0]; exact Blk.new w _ _
  have hnl : d.now.length ≤ 90000 := by have h1 := ok.nowN; have h2 := ok.lenN; omega
  have HA0 := Lib.hid (h.below hb0)
  have HB0 := Lib.hid hb0
  have HS0 := Lib.hid hs0
  have HQ := Lib.hid hQ
  have HO := Lib.hid ok
  have HH := Lib.hid h
  have HI := Lib.hid hi
  have HIW := Lib.hid (hi.mono hb0 (Nat.le_refl _))
  have HNE := Lib.hid hn
  have hgl := h.box.lt
  have q0 : w0.cell? ⟨w.heap.size, 0, none⟩ = some (.int .i64 9) := hQ.cell 0 rfl
  have q1 : w0.cell? ⟨w.heap.size, 1, none⟩ = some (.string a.name) := hQ.cell 1 rfl
  have q2 : w0.cell? ⟨w.heap.size, 2, none⟩ = some (.string a.dst) := hQ.cell 2 rfl
  have q3 : w0.cell? ⟨w.heap.size, 3, none⟩ = some a.bv := hQ.cell 3 rfl
  have q4 : w0.cell? ⟨w.heap.size, 4, none⟩ = some (.int .i64 a.n) := hQ.cell 4 rfl
  have q5 : w0.cell? ⟨w.heap.size, 5, none⟩ = some (.int .i64 a.m) := hQ.cell 5 rfl
  have q6 : w0.cell? ⟨w.heap.size, 6, none⟩ = some (.int .i64 a.pn) := hQ.cell 6 rfl
  have q7 : w0.cell? ⟨w.heap.size, 7, none⟩ = some a.pv := hQ.cell 7 rfl
  obtain ⟨c0, c1, c2, c3, c4, c5⟩ := HA0.out.facts
  clear h hb0 hs0 hQ hi hn
  have hd0 := armI_0 hd
  obtain ⟨AI, hAI⟩ : ∃ x, armI d.armed = x := ⟨_, rfl⟩
  rw [hAI] at hd0 c5
  unfold RoAt
  have hx := u8_wrap a.m
  obtain ⟨X, hX⟩ : ∃ X, UInt8.ofNat (a.m % 256).toNat = X := ⟨_, rfl⟩
  rw [hX] at hx
  cases hf : tfind d.now a.name with
  | none =>
    have hact : actD d a 9 = (d, [], 0, 6) := by simp only [actD, Dsk.spoil, Dsk.on, if_neg hd, hf]
    rw [hact]
    go_enter Try.func10, Try.ntmps10
    go_upto_region 1 with fail
    rw [← hw0]
    clear hw0
    go_upto_region 16 with fail
    go_still_tail 6, (by kernel_rfl)
    change wpList _ _ _ _ _ w0.drew
    go_wp2_with fail
    refine (rfind_any L.now d.now a.name _ (HA0.out.below (Below.refl _ _).drew).rest.now (by omega)).mono ?_
    rintro e wf ⟨rfl, rfl⟩
    rw [hf, show fnum none = -1 from rfl]
    go_wp2
    exact bodyPost_ret (v := .tuple #[.slice none 0 0, .int .i64 0, .int .i64 6]) (by simp [results, Try.results10, go_sem]) rfl ⟨_, rfl, IsB.nil _, Rs.self HH.out HB0.out.drew⟩
  | some j =>
    have hfj := (Ok.file HO.out hf).1
    obtain ⟨fv, hfv, hfB⟩ := HA0.out.rest.fileAt hfj
    have hflen := (Ok.fat HO.out hfj).2
    obtain ⟨F, hF, hidx, hc, hfr, _⟩ := indexAt_own HA0.out.rest.fil 33 _ Try.underlying33 Try.sizeRFil j (by rw [rfps_len HA0.out.rest]; exact hfj)
    have f0 := hc 0 (by decide)
    have f1 := hc 1 (by decide)
    rw [row_get rfe_len hfv _ (by decide)] at f0 f1
    simp only [rfe, List.getElem?_cons_zero, List.getElem?_cons_succ, Nat.add_zero] at f0 f1
    obtain ⟨FB, hFB⟩ : ∃ b, (fat d.files j).b = b := ⟨_, rfl⟩
    obtain ⟨FN, hFN⟩ : ∃ n, FB.length = n := ⟨_, rfl⟩
    obtain ⟨LA, hLA⟩ : ∃ n, (fat d.files j).lasts = n := ⟨_, rfl⟩
    obtain ⟨fx, fz, rfl, hfz, hfm⟩ := hfB.at_len (n := FN) (by rw [hFB]; exact hFN)
    rw [hFB, hFN] at hflen
    rw [hLA] at f1
    rw [hFB] at hfB
    have hlen := fun W => len_X (P := Try.prog) (isX_of_B hfB) 37 3 _ Try.underlying37 W
    rw [hFN] at hlen
    have f0d : w0.drew.cell? ⟨F, j * 2, none⟩ = some (.slice fx FN fz) := f0
    have HFBB := Lib.hid hfB
    have HFB := Lib.hid hFB
    have HFN := Lib.hid hFN
    have HLA := Lib.hid hLA
    have HFV := Lib.hid hfv
    have HFF := Lib.hid hF
    have HST := Lib.hid (fun u v => rwrite_st (F := F) (f := j) u v HA0.out.rest.fil hF)
    have hFl : F < w0.heap.size := (HA0.out.rest.fil.lt F hF).2
    clear hc hfB hFB hFN hLA hfv hF
    have hact0 : actD d a 9 = ((if a.n < 0 ∨ (FN : Int) ≤ a.n then (d, 1) else (d.setF j ⟨FB.set a.n.toNat (FB.getD a.n.toNat 0 ^^^ X), LA⟩, 0)).1, [], 0, (if a.n < 0 ∨ (FN : Int) ≤ a.n then (d, 1) else (d.setF j ⟨FB.set a.n.toNat (FB.getD a.n.toNat 0 ^^^ X), LA⟩, 0)).2) := by
      simp only [actD, Dsk.spoil, Dsk.on, if_neg hd, hf, HFB.out, HFN.out, HLA.out, hX]
    rw [hact0]
    clear hact0 hX
    by_cases hn0 : a.n < 0
    · rw [if_pos (.inl hn0)]
      go_enter Try.func10, Try.ntmps10
      go_upto_region 1 with fail
      rw [← hw0]
      clear hw0
      go_upto_region 16 with fail
      go_still_tail 6, (by kernel_rfl)
      change wpList _ _ _ _ _ w0.drew
      go_wp2_with fail
      refine (rfind_any L.now d.now a.name _ (HA0.out.below (Below.refl _ _).drew).rest.now (by omega)).mono ?_
      rintro e wf ⟨rfl, rfl⟩
      rw [hf, show fnum (some j) = (j : Int) from rfl]
      go_wp2
      exact bodyPost_ret (v := .tuple #[.slice none 0 0, .int .i64 0, .int .i64 1]) (by simp [results, Try.results10, go_sem]) rfl ⟨_, rfl, IsB.nil _, Rs.self HH.out HB0.out.drew⟩
    by_cases hm0 : (FN : Int) ≤ a.n
    · rw [if_pos (.inr hm0)]
      go_enter Try.func10, Try.ntmps10
      go_upto_region 1 with fail
      rw [← hw0]
      clear hw0
      go_upto_region 16 with fail
      go_still_tail 6, (by kernel_rfl)
      change wpList _ _ _ _ _ w0.drew
      go_wp2_with fail
      refine (rfind_any L.now d.now a.name _ (HA0.out.below (Below.refl _ _).drew).rest.now (by omega)).mono ?_
      rintro e wf ⟨rfl, rfl⟩
      rw [hf, show fnum (some j) = (j : Int) from rfl]
      go_wp2
      exact bodyPost_ret (v := .tuple #[.slice none 0 0, .int .i64 0, .int .i64 1]) (by simp [results, Try.results10, go_sem]) rfl ⟨_, rfl, IsB.nil _, Rs.self HH.out HB0.out.drew⟩
    obtain ⟨n, hn⟩ := Int.eq_ofNat_of_zero_le (show 0 ≤ a.n by omega)
    rw [if_neg (by omega), hn, Int.toNat_natCast]
    unfold actCs at hw0
    rw [hn] at hw0 q4 hn0 hm0
    clear hn
    have hnF : n < FN := by omega
    obtain ⟨ib, hib, hib0, hib1, hib2⟩ := info_parts Try.infoU8
    have HIB := Lib.hid hib
    have HZ0 := Lib.hid hib0
    have HZ1 := Lib.hid hib1
    have HZ2 := Lib.hid hib2
    have HXF := Lib.hid (show IsX w0 1 (.slice fx FN fz) FN (bvs FB) from by have h := isX_of_B HFBB.out; rwa [HFN.out] at h)
    clear hib hib0 hib1 hib2
    go_enter Try.func10, Try.ntmps10
    go_upto_region 1 with fail
    rw [← hw0]
    clear hw0
    go_upto_region 16 with fail
    go_still_tail 6, (by kernel_rfl)
    change wpList _ _ _ _ _ w0.drew
    go_wp2_with fail
    refine (rfind_any L.now d.now a.name _ (HA0.out.below (Below.refl _ _).drew).rest.now (by omega)).mono ?_
    rintro e wf ⟨rfl, rfl⟩
    rw [hf, show fnum (some j) = (j : Int) from rfl]
    go_wp2_with (at_builtin; refine wpList_append_X (by rfl) _ _ 37 37 rfl (fun _ _ _ => rfl) w0.heap.size 5 ib _ 1 1 Try.underlying37 HIB.out HZ0.out HZ1.out HZ2.out rfl (by decide) _ [] 0 rfl (own_litAt w0.drew w0.heap.size 5 1 w0.heap.size rfl (Nat.le_refl _)) _ FN _ rfl (HXF.out.mono (((Below.refl w0.heap.size w0).drew).alloc (Nat.le_refl _) _) (Nat.le_refl _)) (bvs_one _) (by unfold maxLen; omega) (by omega) (by simp) ?_)
    intro v5 w5 hown5 hgr5 hat5
    have hown5 : w5.ownsRow w0.heap.size 5 1 v5 FN (bvs FB) := by simpa using hown5
    obtain ⟨x5, z5, rfl, _, _⟩ := ownsRow_slice hown5
    have hb5 : Below w0.heap.size w0 w5 := ((((Below.refl w0.heap.size w0).drew).alloc (Nat.le_refl _) _).grown hgr5 (by simp) (fun j hj => by have e : some w0.heap.size = some j := hj; have := Option.some.inj e; omega))
    have HB5 := Lib.hid hb5
    have HO5 := Lib.hid hown5
    obtain ⟨G, hG, hidG, hcG, hfG, hstG⟩ := indexAt_own HO5.out 37 _ Try.underlying37 Try.sizeU8b n hnF
    rw [Nat.mul_one] at hidG hcG
    have cG := hcG 0 (by decide)
    rw [Nat.add_zero, bvs_get (by rw [HFN.out]; exact hnF)] at cG
    have fG := hfG n
    obtain ⟨yb, hyb⟩ : ∃ yb, FB.getD n 0 = yb := ⟨_, rfl⟩
    rw [hyb] at cG
    have hxor : bits .xor .u8 (yb.toNat : Int) (X.toNat : Int) = (((yb ^^^ X : UInt8)).toNat : Int) := by rw [u8_xor_nat _ _ yb.toNat_lt X.toNat_lt, UInt8.toNat_xor]
    have hG2 := (HO5.out.lt G hG)
    have HST5 := Lib.hid (show (w5.setCell ⟨G, n, none⟩ (bv (yb ^^^ X))).ownsRow w0.heap.size 5 1 (.slice x5 FN z5) FN (bvs (FB.set n (yb ^^^ X))) from by have h := hstG n (bv (yb ^^^ X)); rw [bvs_set] at h; exact h)
    have HYB := Lib.hid hyb
    have hGw : w0.heap.size ≤ G := hG2.1
    have hqw := HQ.out.lt
    have S0 : w5.drew.cell? ⟨w.heap.size, 4, none⟩ = some (.int .i64 (n : Int)) ∧ w5.drew.cell? ⟨w.heap.size, 5, none⟩ = some (.int .i64 a.m) ∧ w5.drew.cell? ⟨G, n, none⟩ = some (.int .u8 (yb.toNat : Int)) := ⟨(hb5.cell (p := ⟨w.heap.size, 4, none⟩) hqw).trans q4, (hb5.cell (p := ⟨w.heap.size, 5, none⟩) hqw).trans q5, cG⟩
    have fGd : w5.drew.frozen? ⟨G, n, none⟩ = false := fG
    clear hcG hfG hstG hyb hG hG2 hown5 hgr5 hat5 hb5 f0 f1 f0d
    go_wp2_with fail
    refine AnyE.start (S := (fun wx => wx.cell? ⟨w.heap.size, 4, none⟩ = some (.int .i64 (n : Int)) ∧ wx.cell? ⟨w.heap.size, 5, none⟩ = some (.int .i64 a.m) ∧ wx.cell? ⟨G, n, none⟩ = some (.int .u8 (yb.toNat : Int)))) 13 (by kernel_rfl) (S0) (fun hHeld => ?_)
    refine AnyE.take (i := 0) (v := ?_) rfl (by kernel_rfl) (by kernel_rfl) (by kernel_rfl) (by kernel_rfl) (fun _ _ _ h => h) (Or.inl ⟨by rfl, ?_⟩) (by assumption) ?_
    rotate_left 1
    · intro w hSw
      (try dsimp only at hSw)
      go_simp
      all_goals (with_reducible rfl)
    try simp only [Act.put, List.getElem_toArray, List.getElem_cons_zero, List.getElem_cons_succ, List.setIfInBounds_toArray, List.set_cons_zero, List.set_cons_succ]
    refine AnyE.take (i := 1) (v := ?_) rfl (by kernel_rfl) (by kernel_rfl) (by kernel_rfl) (by kernel_rfl) (fun _ _ _ h => h) (Or.inl ⟨by rfl, ?_⟩) (by assumption) ?_
    rotate_left 1
    · intro w hSw
      (try dsimp only at hSw)
      go_simp
      all_goals (with_reducible rfl)
    try simp only [Act.put, List.getElem_toArray, List.getElem_cons_zero, List.getElem_cons_succ, List.setIfInBounds_toArray, List.set_cons_zero, List.set_cons_succ]
    refine AnyE.take (i := 2) (v := ?_) rfl (by kernel_rfl) (by kernel_rfl) (by kernel_rfl) (by kernel_rfl) (fun _ _ _ h => h) (Or.inl ⟨by rfl, ?_⟩) (by assumption) ?_
    rotate_left 1
    · intro w hSw
      (try dsimp only at hSw)
      go_simp
      all_goals (with_reducible rfl)
    try simp only [Act.put, List.getElem_toArray, List.getElem_cons_zero, List.getElem_cons_succ, List.setIfInBounds_toArray, List.set_cons_zero, List.set_cons_succ]
    refine AnyE.take (i := 3) (v := ?_) rfl (by kernel_rfl) (by kernel_rfl) (by kernel_rfl) (by kernel_rfl) (fun _ _ _ h => h) (Or.inl ⟨by rfl, ?_⟩) (by assumption) ?_
    rotate_left 1
    · intro w hSw
      (try dsimp only at hSw)
      go_simp
      all_goals (with_reducible rfl)
    try simp only [Act.put, List.getElem_toArray, List.getElem_cons_zero, List.getElem_cons_succ, List.setIfInBounds_toArray, List.set_cons_zero, List.set_cons_succ]
    refine AnyE.take (i := 4) (v := ?_) rfl (by kernel_rfl) (by kernel_rfl) (by kernel_rfl) (by kernel_rfl) (fun _ _ _ h => h) (Or.inl ⟨by rfl, ?_⟩) (by assumption) ?_
    rotate_left 1
    · intro w hSw
      (try dsimp only at hSw)
      go_simp
      all_goals (with_reducible rfl)
    try simp only [Act.put, List.getElem_toArray, List.getElem_cons_zero, List.getElem_cons_succ, List.setIfInBounds_toArray, List.set_cons_zero, List.set_cons_succ]
    refine AnyE.take (i := 5) (v := ?_) rfl (by kernel_rfl) (by kernel_rfl) (by kernel_rfl) (by kernel_rfl) (fun _ _ _ h => h) (Or.inl ⟨by rfl, ?_⟩) (by assumption) ?_
    rotate_left 1
    · intro w hSw
      (try dsimp only at hSw)
      go_simp
      all_goals (with_reducible rfl)
    try simp only [Act.put, List.getElem_toArray, List.getElem_cons_zero, List.getElem_cons_succ, List.setIfInBounds_toArray, List.set_cons_zero, List.set_cons_succ]
    refine AnyE.take (i := 6) (v := ?_) rfl (by kernel_rfl) (by kernel_rfl) (by kernel_rfl) (by kernel_rfl) (fun _ _ _ h => h) (Or.inl ⟨by rfl, ?_⟩) (by assumption) ?_
    rotate_left 1
    · intro w hSw
      (try dsimp only at hSw)
      go_simp
      all_goals (with_reducible rfl)
    try simp only [Act.put, List.getElem_toArray, List.getElem_cons_zero, List.getElem_cons_succ, List.setIfInBounds_toArray, List.set_cons_zero, List.set_cons_succ]
    refine AnyE.take (i := 7) (v := ?_) rfl (by kernel_rfl) (by kernel_rfl) (by kernel_rfl) (by kernel_rfl) (fun _ _ _ h => h) (Or.inl ⟨by rfl, ?_⟩) (by assumption) ?_
    rotate_left 1
    · intro w hSw
      (try dsimp only at hSw)
      go_simp
      all_goals (with_reducible rfl)
    try simp only [Act.put, List.getElem_toArray, List.getElem_cons_zero, List.getElem_cons_succ, List.setIfInBounds_toArray, List.set_cons_zero, List.set_cons_succ]
    refine AnyE.take (i := 8) (v := ?_) rfl (by kernel_rfl) (by kernel_rfl) (by kernel_rfl) (by kernel_rfl) (fun _ _ _ h => h) (Or.inl ⟨by rfl, ?_⟩) (by assumption) ?_
    rotate_left 1
    · intro w hSw
      (try dsimp only at hSw)
      go_simp
      all_goals (with_reducible rfl)
    try simp only [Act.put, List.getElem_toArray, List.getElem_cons_zero, List.getElem_cons_succ, List.setIfInBounds_toArray, List.set_cons_zero, List.set_cons_succ]
    refine AnyE.take (i := 9) (v := ?_) rfl (by kernel_rfl) (by kernel_rfl) (by kernel_rfl) (by kernel_rfl) (fun _ _ _ h => h) (Or.inl ⟨by rfl, ?_⟩) (by assumption) ?_
    rotate_left 1
    · intro w hSw
      (try dsimp only at hSw)
      go_simp
      all_goals (with_reducible rfl)
    try simp only [Act.put, List.getElem_toArray, List.getElem_cons_zero, List.getElem_cons_succ, List.setIfInBounds_toArray, List.set_cons_zero, List.set_cons_succ]
    refine AnyE.take (i := 10) (v := ?_) rfl (by kernel_rfl) (by kernel_rfl) (by kernel_rfl) (by kernel_rfl) (fun _ _ _ h => h) (Or.inl ⟨by rfl, ?_⟩) (by assumption) ?_
    rotate_left 1
    · intro w hSw
      (try dsimp only at hSw)
      go_simp
      all_goals (with_reducible rfl)
    try simp only [Act.put, List.getElem_toArray, List.getElem_cons_zero, List.getElem_cons_succ, List.setIfInBounds_toArray, List.set_cons_zero, List.set_cons_succ]
    refine AnyE.take (i := 11) (v := ?_) rfl (by kernel_rfl) (by kernel_rfl) (by kernel_rfl) (by kernel_rfl) (fun _ _ _ h => h) (Or.inl ⟨by rfl, ?_⟩) (by assumption) ?_
    rotate_left 1
    · intro w hSw
      (try dsimp only at hSw)
      go_simp
      all_goals (with_reducible rfl)
    try simp only [Act.put, List.getElem_toArray, List.getElem_cons_zero, List.getElem_cons_succ, List.setIfInBounds_toArray, List.set_cons_zero, List.set_cons_succ]
    refine AnyE.next (rs := [12]) (by kernel_rfl) (by simp) ?_
    refine AllE.cons rfl (fun K hK => ?_) AllE.nil
    go_simp
    refine hK.out _ _ (by assumption) (fun hHeld => ?_)
    clear hK K
    try simp only [Act.put, List.getElem_toArray, List.getElem_cons_zero, List.getElem_cons_succ, List.setIfInBounds_toArray, List.set_cons_zero, List.set_cons_succ]
    refine AnyE.next (rs := [13]) (by kernel_rfl) (by simp) ?_
    refine AllE.last rfl (fun K hK => ?_)
    go_simp
    refine hK.out _ _ ?_
    clear hK K
    try simp only [Act.put, List.getElem_toArray, List.getElem_cons_zero, List.getElem_cons_succ, List.setIfInBounds_toArray, List.set_cons_zero, List.set_cons_succ]
    refine AnyE.done (by kernel_rfl) ?_ _
    have HB7 := Lib.hid (HB5.out.setCell (p := ⟨G, n, none⟩) hGw (bv (yb ^^^ X)))
    obtain ⟨w7, hw7⟩ : ∃ w7, w7 = (w5.setCell ⟨G, n, none⟩ (bv (yb ^^^ X))).drew := ⟨_, rfl⟩
    have HB7 := Lib.hid (show Below w0.heap.size w0 w7 from by rw [hw7]; exact HB7.out.drew)
    have HO7 := Lib.hid (show w7.ownsRow w0.heap.size 5 1 (.slice x5 FN z5) FN (bvs (FB.set n (yb ^^^ X))) from by rw [hw7]; exact HST5.out)
    have hxx : Value.int .u8 ((yb.toNat ^^^ X.toNat : Nat) : Int) = bv (yb ^^^ X) := by show _ = Value.int .u8 (((yb ^^^ X).toNat : Nat) : Int); rw [UInt8.toNat_xor]
    have hwe : ∀ u, u = bv (yb ^^^ X) → (w5.setCell ⟨G, n, none⟩ u).drew = w7 := fun u hu => by rw [hu, hw7]
    first | rw [hwe _ hxx] | rw [hwe _ rfl]
    clear hw7 hwe hxx cG fG fGd S0
    have HA7 := Lib.hid (HA0.out.below HB7.out)
    obtain ⟨_, _, _, _, k4, _⟩ := HA7.out.facts
    have f0 : w7.cell? ⟨F, j * 2, none⟩ = some (.slice fx FN fz) := by
      obtain ⟨F2, hF2, _, hc2, _, _⟩ := indexAt_own HA7.out.rest.fil 33 _ Try.underlying33 Try.sizeRFil j (by rw [rfps_len HA7.out.rest]; exact hfj)
      obtain rfl : F2 = F := Option.some.inj (hF2.symm.trans HFF.out)
      have h := hc2 0 (by decide)
      rw [row_get rfe_len HFV.out 0 (by decide)] at h
      exact h
    have ff : w7.frozen? ⟨F, j * 2, none⟩ = false := by
      obtain ⟨F2, hF2, _, _, hf2, _⟩ := indexAt_own HA7.out.rest.fil 33 _ Try.underlying33 Try.sizeRFil j (by rw [rfps_len HA7.out.rest]; exact hfj)
      obtain rfl : F2 = F := Option.some.inj (hF2.symm.trans HFF.out)
      exact hf2 _
    have HRX := Lib.hid (show Rs w g L R (d.setF j ⟨FB.set n (FB.getD n 0 ^^^ X), LA⟩) (w7.setCell ⟨F, j * 2, none⟩ (.slice x5 FN z5)) from by
      rw [HYB.out]
      exact Rs.below HB0.out (rspoil_fin (p' := (⟨FB.set n (yb ^^^ X), LA⟩, .slice x5 FN z5)) HB7.out HA7.out HFV.out HFF.out (IsB.own HO7.out (by rw [List.length_set, HFN.out])) (fun b hb => .inr ((HO7.out.lt b hb.2).1)) HA0.out.box.lt hFl HLA.out.symm (fun W h => (HST.out _ (.int .i64 0) W h).1)))
    go_wp2
    exact bodyPost_ret (v := .tuple #[.slice none 0 0, .int .i64 0, .int .i64 0]) (by simp [results, Try.results10, go_sem]) rfl ⟨_, rfl, IsB.nil _, HRX.out⟩
theorem rdo_any (w : World) (g : Nat) (L : RL) (R : Nat → Prop) (d : Dsk) (kk : Nat) (a : Ac) (k : Nat) (h : RAt w g L R d) (ok : d.Ok kk) (hk : kk + 1 ≤ 90000) (hi : a.In w) (hn : a.Near) (hk11 : k ≤ 11) (hpv : ∀ b, liesX a.pv a.pf.length b → ¬ (b = g ∨ L.fil.ownBlock = some b)) :
    Calls Try.prog 10 #[.pointer (some ⟨g, 0, none⟩), actV (k : Int) a.name a.dst a.bv a.n a.m a.pn a.pv] w (RoAt w g L R d a k) := by
  by_cases h8 : k = 8
  · subst h8
    exact rdo_8 w g L R d kk a h ok hk hi hn hpv
  by_cases hd : d.armed = some 0
  · exact rdo_down w g L R d kk a h ok hk hi hn k h8 hk11 hd
  match k, hk11 with
  | 0, _ => exact rdo_0 w g L R d kk a h ok hk hi hn hd
  | 1, _ => exact rdo_1 w g L R d kk a h ok hk hi hn hd
  | 2, _ => exact rdo_2 w g L R d kk a h ok hk hi hn hd
  | 3, _ => exact rdo_3 w g L R d kk a h ok hk hi hn hd
  | 4, _ => exact rdo_4 w g L R d kk a h ok hk hi hn hd
  | 5, _ => exact rdo_5 w g L R d kk a h ok hk hi hn hd
  | 6, _ => exact rdo_6 w g L R d kk a h ok hk hi hn hd
  | 7, _ => exact rdo_7 w g L R d kk a h ok hk hi hn hd
  | 8, _ => exact absurd rfl h8
  | 9, _ => exact rdo_9 w g L R d kk a h ok hk hi hn hd
  | 10, _ => exact rdo_10 w g L R d kk a h ok hk hi hn hd
  | 11, _ => exact rdo_11 w g L R d kk a h ok hk hi hn hd

end Go.Proofs.Ytdapdlacpefbdaa
