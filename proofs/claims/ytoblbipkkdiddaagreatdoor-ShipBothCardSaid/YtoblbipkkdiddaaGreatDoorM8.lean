/- Volw, Volp, Volq, Volg, Voll. -/
import Derived.Test.YtoblbipkkdiddaaGreatDoorM7
import Derived.IntWalk
set_option linter.unusedVariables false
set_option linter.unusedSimpArgs false

section
namespace Go.Proofs.YtoblbipkkdiddaaGreatDoor
open Go.RowKit Go.Cor

/-- A needle's box outlives what a call of the volume does. -/
theorem Vt.cell {S : Nat → Prop} {w w' : World} {g p k' : Nat} {d' : Dsk} {s' : Vst} (h : Vt w w' g p S d' k' s') {q : Addr} {v : Value} (hq : w.cell? q = some v) (hS : ¬ S q.block) : w'.cell? q = some v := by
  obtain ⟨S', _, h2, _⟩ := h
  exact h2.cell hq hS
theorem Vl.cells {w : World} {g p k : Nat} {S : Nat → Prop} {d : Dsk} {s : Vst} (h : Vl w g p S d k s) : w.cell? ⟨g, 0, none⟩ = some (.pointer (some ⟨p, 0, none⟩)) := by
  obtain ⟨x, v, hb, _⟩ := h.box
  exact hb.cell 0 rfl
theorem Vl.drew {w : World} {g p k : Nat} {S : Nat → Prop} {d : Dsk} {s : Vst} (h : Vl w g p S d k s) : Vl w.drew g p S d k s := h.below ((Below.refl _ w).drew) (Nat.le_refl _)
theorem Vl.drewN {w : World} {g p k : Nat} {S : Nat → Prop} {d : Dsk} {s : Vst} (h : Vl w g p S d k s) (n : Nat) : Vl (w.drewN n) g p S d k s := h.below (below_drewN (Below.refl _ w) n) (Nat.le_refl _)
theorem drewn_below {w w' : World} (h : ∃ n, w' = w.drewN n) : Below w.heap.size w w' := by
  obtain ⟨n, rfl⟩ := h
  exact below_drewN (Below.refl _ w) n
theorem file_vl (g p k : Nat) (S : Nat → Prop) (d : Dsk) (s : Vst) (w : World) (hs : s.Ok) (h : Vl w g p S d k s) :
    Calls Tryz.prog 46 #[.pointer (some ⟨g, 0, none⟩)] w fun e w' => e = .returned (.string (nmD s.num s.gen)) ∧ ∃ n, w' = w.drewN n := by
  obtain ⟨x, v, hb, _⟩ := h.box
  exact file_v g p x s w hs hb

/-- A position laid in its index, and its size. -/
theorem Vt.of_put {w w1 w2 w3 : World} {g p x k : Nat} {v v' : Value} {S Sd : Nat → Prop} {d : Dsk} {s : Vst} {n : Ndl} (hp : Vp w g p x v Sd d k s) (hS : ∀ b, S b ↔ b = g ∨ Q.own x v b ∨ Sd b) (hb : Below w.heap.size w w1)
    (ha : Q.At w2 x v' (put s.idx (posN n s.size))) (hk : Kept (Q.own x v) w1 w2) (ho : ∀ b, Q.own x v' b → Q.own x v b ∨ w1.heap.size ≤ b) (hb3 : Below w2.heap.size w2 w3) (u : Value) (hu : u = .int .i64 ((s.wrote n).size : Int)) :
    Vt w (w3.setCell ⟨g, 6, none⟩ u) g p S d k (s.wrote n) := by
  subst hu
  have hgl := hp.box.lt
  have hK : Kept (fun b => b = g) w3 (w3.setCell ⟨g, 6, none⟩ (.int .i64 ((s.wrote n).size : Int))) := (Kept.refl (fun b => b = g) w3).setCell (.inl rfl) _
  have hbox := ((hp.box.below hb hgl).kept hk hp.gx).below hb3 (Nat.lt_of_lt_of_le hgl (Nat.le_trans hb.size hk.size))
  have hgo : ¬ Q.own x v' g := fun h => by
    rcases ho g h with h | h
    · exact hp.gx h
    · have := hb.size; omega
  have hxd : ∀ b, Q.own x v' b → ¬ Sd b := fun b h h2 => by
    rcases ho b h with h | h
    · exact hp.xd b h h2
    · have := hp.dk.lt b h2; have := hb.size; omega
  have hd3 := ((hp.dk.below hb (Nat.le_refl _)).kept hk (fun b h h2 => hp.xd b h2 h)).below hb3 (Nat.le_refl _)
  refine ⟨fun b => b = g ∨ Q.own x v' b ∨ Sd b, ⟨x, v', Sd, ⟨?_, ?_, ?_, hgo, hp.gd, hxd⟩, fun b => Iff.rfl⟩, ?_, fun b hb2 => ?_⟩
  · have := hbox.set 6 (.int .i64 ((s.wrote n).size : Int))
    exact this
  · rw [s.idx_wrote]
    exact (ha.below hb3 (Nat.le_refl _)).kept hK (fun b h h2 => hgo (h2 ▸ h))
  · exact hd3.kept hK (fun b h h2 => hp.gd (h2 ▸ h))
  · have k1 : Kept S w w1 := Kept.of_below hb (Nat.le_refl _)
    have k2 : Kept S w w2 := k1.trans hk (fun j hj _ => (hS j).2 (.inr (.inl hj)))
    have k3 : Kept S w w3 := k2.trans (Kept.of_below (S := fun _ => False) hb3 (Nat.le_refl _)) (fun _ h => h.elim)
    exact k3.setCell (.inl ((hS g).2 (.inl rfl))) _
  · rcases hb2 with rfl | h | h
    · exact .inl ((hS _).2 (.inl rfl))
    · rcases ho b h with h | h
      · exact .inl ((hS _).2 (.inr (.inl h)))
      · exact .inr (Nat.le_trans hb.size h)
    · exact .inl ((hS _).2 (.inr (.inr h)))

theorem Vt.join {S S1 : Nat → Prop} {wa wb w' : World} {g p k' : Nat} {d' : Dsk} {s' : Vst} (hK : Kept S wa wb) (hS : ∀ b, S1 b → S b ∨ wa.heap.size ≤ b) (h : Vt wb w' g p S1 d' k' s') : Vt wa w' g p S d' k' s' := by
  obtain ⟨S2, b1, b2, b3⟩ := h
  refine ⟨S2, b1, hK.trans b2 (fun j hj hlt => ?_), fun b hb => ?_⟩
  · rcases hS j hj with h | h
    · exact h
    · omega
  · rcases b3 b hb with h | h
    · exact hS b h
    · exact .inr (Nat.le_trans hK.size h)
theorem wk_kept {T : Nat → Prop} {wx wy : World} {g B : Nat} {a b c0 c1 c2 c3 : Value} (hk : Kept T wx wy) (hg : ¬ T g) (hB : ¬ T B)
    (K : wx.cell? ⟨g, 7, none⟩ = some a ∧ wx.cell? ⟨g, 6, none⟩ = some b ∧ wx.cell? ⟨B, 0, none⟩ = some c0 ∧ wx.cell? ⟨B, 1, none⟩ = some c1 ∧ wx.cell? ⟨B, 2, none⟩ = some c2 ∧ wx.cell? ⟨B, 3, none⟩ = some c3) :
    wy.cell? ⟨g, 7, none⟩ = some a ∧ wy.cell? ⟨g, 6, none⟩ = some b ∧ wy.cell? ⟨B, 0, none⟩ = some c0 ∧ wy.cell? ⟨B, 1, none⟩ = some c1 ∧ wy.cell? ⟨B, 2, none⟩ = some c2 ∧ wy.cell? ⟨B, 3, none⟩ = some c3 :=
  ⟨hk.cell K.1 hg, hk.cell K.2.1 hg, hk.cell K.2.2.1 hB, hk.cell K.2.2.2.1 hB, hk.cell K.2.2.2.2.1 hB, hk.cell K.2.2.2.2.2 hB⟩
set_option maxRecDepth 100000 in
set_option maxHeartbeats 1000000 in
theorem write_ok (n : Ndl) (v : Value) (g p k : Nat) (S : Nat → Prop) (d : Dsk) (s : Vst) (w : World) (hs : s.Ok) (h : Vl w g p S d k s) (hk : k + 4 ≤ 90000)
    (hv : IsB w v n.data) (hvS : ∀ b, liesB v n.data b → ¬ S b) (hn : n.fits ∧ ncheck n = 0) (hm : s.size + nlen n ≤ s.most) (hf : s.ns.length + 1 < 4096) (b : List UInt8) (hfs : Fs d k) (hd : view d (nmD s.num s.gen) = some b) (hbl : b.length = s.size) (hu : d.used + nlen n ≤ d.cap) :
    Calls Tryz.prog 50 #[.pointer (some ⟨g, 0, none⟩), Nd.nval n v] w fun e w' =>
      e = .returned .nilIface ∧ Vt w w' g p S ((d.append (nmD s.num s.gen) (nbytes n)).1.sync (nmD s.num s.gen)).1 (k + 4) (s.wrote n) := by
  have HV := Lib.hid hv
  have HVS := Lib.hid hvS
  have HS := Lib.hid hs
  have HN := Lib.hid hn
  have HVL := Lib.hid h
  have hms := hs.most
  have hnl : (nbytes n).length = nlen n := nlen_eq n
  have ha := hfs.append (l := nbytes n) hd (by rw [hnl, hbl]; omega) (by rw [hnl]; exact hu)
  have HA := Lib.hid ha
  have HY := Lib.hid (ha.2.fs.sync (ha.2.view (nmD s.num s.gen) |>.trans (if_pos rfl)))
  obtain ⟨d1, hd1⟩ : ∃ d1, (d.append (nmD s.num s.gen) (nbytes n)).1 = d1 := ⟨_, rfl⟩
  rw [hd1] at HA HY ⊢
  have HD1 := Lib.hid hd1
  obtain ⟨L, hL⟩ : ∃ L, s.idx.length = L := ⟨_, rfl⟩
  have hLl : L < 4096 := by have := s.idx_len; omega
  have HLL := Lib.hid hL
  obtain ⟨N, hN⟩ : ∃ N, nlen n = N := ⟨_, rfl⟩
  rw [hN] at hnl hm
  have HNL := Lib.hid hnl
  have HNN := Lib.hid hN
  obtain ⟨Z, hZ⟩ : ∃ Z, s.size = Z := ⟨_, rfl⟩
  have HZ := Lib.hid hZ
  rw [hZ] at hm hbl
  obtain ⟨M, hM⟩ : ∃ M, s.most = M := ⟨_, rfl⟩
  have HM := Lib.hid hM
  rw [hM] at hm hms
  have hlt := fun b hb => h.lt b hb
  have HLT := Lib.hid hlt
  clear hv hvS hs hn h ha hd1 hL hN hZ hM hlt hd hfs hu
  have hal : Below w.heap.size w (w.alloc (Nd.ncells n v 48)) := below_alloc w _
  go_enter Tryz.func50, Tryz.ntmps50
  go_wp2_with fail
  refine (Nd.put_okN n v _ (HV.out.mono hal (Nat.le_refl _)) HN.out.1 HN.out.2).mono ?_
  rintro e w1 ⟨v1, rfl, hown1, hb1⟩
  rw [HNL.out] at hown1
  have HBX := Lib.hid ((Nd.Boxed.new w n v 48).mono hb1 (by simp))
  have HB1 := Lib.hid (hal.trans (hb1.mono (by simp)))
  have hlt1 : w.heap.size < w1.heap.size := by have := hb1.size; simp at this; omega
  have HO1 := Lib.hid hown1
  have HV1 := Lib.hid (HVL.out.below HB1.out (Nat.le_refl _))
  clear hown1 hb1
  obtain ⟨x, xv, hbox, hix⟩ := HV1.out.box
  obtain ⟨c0, c1, c2, c3, c4, c5, c6, c7, fz⟩ := vbox_facts hbox
  go_wp2_with fail
  refine (Q.len_any _ xv s.idx _ (.at x xv s.idx hix) (by have := HLL.out; omega)).mono ?_
  rintro e w2 ⟨rfl, hb2⟩
  rw [HLL.out]
  obtain ⟨G, hG⟩ : ∃ G, Q.goneN s.idx = G := ⟨_, rfl⟩
  have hGL : G ≤ L := by rw [← hG, ← HLL.out]; exact Q.goneN_le _
  rw [hG]
  obtain ⟨A, hA⟩ : ∃ A : Int, (L : Int) - (G : Int) = A := ⟨_, rfl⟩
  rw [hA]
  have HB2 := Lib.hid (HB1.out.trans (hb2.mono HB1.out.size))
  have HBX2 := Lib.hid (HBX.out.mono hb2 hlt1)
  have HO2 := Lib.hid (show w2.ownsRow w.heap.size 5 1 v1 N (bvs (nbytes n)) from ownsRow_base (ownsRow_below HO1.out hb2 (Nat.le_refl _)) (by simp))
  have HV2 := Lib.hid (HV1.out.below hb2 (Nat.le_refl _))
  have hlt2 : w.heap.size < w2.heap.size := Nat.lt_of_lt_of_le hlt1 hb2.size
  clear c0 c1 c2 c3 c4 c5 c6 c7 fz hbox hix HO1 HBX HB1 HV1 hlt1 hb2 hal hG
  have HW := Lib.hid (Vl.cells HV2.out)
  obtain ⟨x2, xv2, hbox, hix⟩ := HV2.out.box
  obtain ⟨c0, _, _, _, _, c5, c6, c7, fz⟩ := vbox_facts hbox
  rw [HM.out] at c5
  rw [HZ.out] at c6
  have HBO := Lib.hid hbox
  clear hbox hix
  have hlen := fun W => len_X (P := Tryz.prog) (IsX.own HO2.out) 45 3 _ Tryz.underlying45 W
  have e1 : IntKind.i64.wrap (A + (G : Int)) = (L : Int) := by rw [IntWalk.i64_in _ (by omega)]; omega
  have e2 : decide ((4096 : Int) ≤ (L : Int)) = false := decide_eq_false (by omega)
  have e2' : decide (4096 ≤ L) = false := decide_eq_false (by omega)
  have e3 : IntKind.i64.wrap ((M : Int) - (Z : Int)) = (M : Int) - (Z : Int) := IntWalk.i64_in _ (by omega)
  have e4 : decide ((M : Int) - (Z : Int) < (N : Int)) = false := decide_eq_false (by omega)
  go_wp2
  go_quiet (fail)
  obtain ⟨w3, hw3⟩ : ∃ w3, w2.drewN nq = w3 := ⟨_, rfl⟩
  have HV3 := Lib.hid (show Vl w3.drew g p S d k s by rw [← hw3]; exact (HV2.out.drewN nq).drew)
  have HB3 := Lib.hid (show Below w.heap.size w w3 by rw [← hw3]; exact below_drewN HB2.out nq)
  have HBX3 := Lib.hid (show Nd.Boxed w3 w.heap.size n v by rw [← hw3]; exact HBX2.out)
  have HO3 := Lib.hid (show w3.ownsRow w.heap.size 5 1 v1 N (bvs (nbytes n)) by rw [← hw3]; exact HO2.out)
  have hlt3 : w.heap.size < w3.heap.size := by rw [← hw3]; exact hlt2
  have K0 : w3.drew.cell? ⟨g, 0, none⟩ = some (.pointer (some ⟨p, 0, none⟩)) := Vl.cells HV3.out
  have HIB := Lib.hid (show IsB w3.drew v1 (nbytes n) from IsB.own (ownsRow_below HO3.out ((Below.refl _ w3).drew) (Nat.le_refl _)) HNL.out.symm)
  clear e1 e2 e2' e3 e4 hlen c0 c5 c6 c7 fz HW HBO HV2 HB2 HBX2 HO2 hlt2
  go_wp2_with fail
  rw [hw3]
  clear hw3
  have hNb : N ≤ 16777216 := by omega
  go_region_held3 (fun wx => wx.cell? ⟨g, 0, none⟩ = some (.pointer (some ⟨p, 0, none⟩))) (first | exact K0 | exact Ka | exact Kb) (first | (go_at_call 46; refine (file_vl g p k S d s w3.drew HS.out HV3.out).mono ?_; rintro e wa ⟨rfl, hna⟩; have HVa := Lib.hid (HV3.out.below (drewn_below hna) (Nat.le_refl _)); have HIa := Lib.hid (HIB.out.mono (drewn_below hna) (Nat.le_refl _)); have HBa := Lib.hid (drewn_below hna); have Ka := Vl.cells HVa.out) | (go_at_call 83; refine (append_vl wa g p S d k s (nmD s.num s.gen) v1 (nbytes n) HVa.out (by omega) HIa.out (by rw [HNL.out]; exact hNb)).mono ?_; rintro e wb ⟨rfl, ht⟩; rw [HA.out.1, cerr_0]; have HTb := Lib.hid ht; have Kb := Vl.cells ht.choose_spec.1; clear ht))
  clear K0 Ka Kb
  have HT := HTb.out
  rw [HD1.out] at HT
  obtain ⟨S1, hV1, hK1, hS1⟩ := HT
  have hwa : w.heap.size < wa.heap.size := Nat.lt_of_lt_of_le hlt3 HBa.out.size
  have hB0 : ¬ S w.heap.size := fun h => by have := HLT.out _ h; omega
  have hbx : Nd.Boxed wb w.heap.size n v := by
    obtain ⟨b0, b1, b2, b3⟩ := HBX3.out.mono (((Below.refl _ w3).drew).trans HBa.out) hlt3
    have h2 := hK1
    exact ⟨h2.cell b0 hB0, h2.cell b1 hB0, h2.cell b2 hB0, h2.cell b3 hB0⟩
  obtain ⟨x3, xv3, Sd3, hp3, hS3⟩ := hV1
  obtain ⟨_, _, _, _, _, _, c6, c7, _⟩ := vbox_facts hp3.box
  rw [HZ.out] at c6
  obtain ⟨b0, b1, b2, b3⟩ := hbx
  have K0 : wb.drew.cell? ⟨g, 7, none⟩ = some (.pointer (some ⟨x3, 0, none⟩)) ∧ wb.drew.cell? ⟨g, 6, none⟩ = some (.int .i64 (Z : Int)) ∧ wb.drew.cell? ⟨w.heap.size, 0, none⟩ = some (.int .u64 (n.key : Int)) ∧ wb.drew.cell? ⟨w.heap.size, 1, none⟩ = some (.int .u32 (n.cookie : Int)) ∧ wb.drew.cell? ⟨w.heap.size, 2, none⟩ = some (.bool n.gone) ∧ wb.drew.cell? ⟨w.heap.size, 3, none⟩ = some v := ⟨c7, c6, b0, b1, b2, b3⟩
  have HP3 := Lib.hid hp3
  have HS3 := Lib.hid hS3
  have HK1 := Lib.hid hK1
  have HS1 := Lib.hid hS1
  have hBw : w.heap.size < wb.heap.size := Nat.lt_of_lt_of_le hwa hK1.size
  have hnox : ¬ Q.own x3 xv3 w.heap.size := fun h => by
    rcases HS1.out _ ((HS3.out _).2 (.inr (.inl h))) with h1 | h1
    · exact hB0 h1
    · omega
  have HVb := Lib.hid (show IsB wb.drew v n.data from ((HV.out.mono ((HB3.out.trans ((Below.refl _ w3).drew.mono (Nat.le_of_lt hlt3))).trans (HBa.out.mono (Nat.le_of_lt hlt3))) (Nat.le_refl _)).kept hK1 HVS.out).mono ((Below.refl _ wb).drew) (Nat.le_refl _))
  have hpa := HP3.out.ix.below ((Below.refl _ wb).drew) (Nat.le_refl _)
  have HIX := Lib.hid hpa
  clear hp3 hS3 hK1 hS1 hpa c6 c7 b0 b1 b2 b3
  go_wp2_with fail
  go_region_held3 (fun wx => wx.cell? ⟨g, 7, none⟩ = some (.pointer (some ⟨x3, 0, none⟩)) ∧ wx.cell? ⟨g, 6, none⟩ = some (.int .i64 (Z : Int)) ∧ wx.cell? ⟨w.heap.size, 0, none⟩ = some (.int .u64 (n.key : Int)) ∧ wx.cell? ⟨w.heap.size, 1, none⟩ = some (.int .u32 (n.cookie : Int)) ∧ wx.cell? ⟨w.heap.size, 2, none⟩ = some (.bool n.gone) ∧ wx.cell? ⟨w.heap.size, 3, none⟩ = some v) (first | exact K0 | exact Kc | exact Kd) (first | (go_at_call 45; refine (position_v n v Z wb.drew HVb.out).mono ?_; rintro e wc ⟨rfl, hbc⟩; have Kc := wk_kept (Kept.of_below (S := fun _ => False) hbc (Nat.le_refl _)) (fun h => h) (fun h => h) K0) | (go_at_call 84; refine (Q.put_any x3 xv3 s.idx (posN n Z) wc (HIX.out.below hbc (Nat.le_refl _)) (by rw [HLL.out]; exact hLl)).mono ?_; rintro e wd ⟨rfl, hput⟩; have HPUT := Lib.hid hput; have Kd := wk_kept hput.choose_spec.2.1 HP3.out.gx hnox Kc; clear hput))
  obtain ⟨v3, ha3, hk3, ho3⟩ := HPUT.out
  have c6 := Kd.2.1
  have fz : wd.frozen? ⟨g, 6, none⟩ = false := (((HP3.out.box.below (((Below.refl _ wb).drew).trans hbc) HP3.out.box.lt).kept hk3 HP3.out.gx)).free 6
  have hlen := fun W => len_X (P := Tryz.prog) (IsX.own HO3.out) 45 3 _ Tryz.underlying45 W
  have e5 : IntKind.i64.wrap ((Z : Int) + (N : Int)) = (Z : Int) + (N : Int) := IntWalk.i64_in _ (by omega)
  have HT4 := Lib.hid (Vt.of_put (n := n) HP3.out HS3.out (((Below.refl _ wb).drew).trans hbc) (by rw [HZ.out]; exact ha3) hk3 ho3 (Below.refl _ wd) (.int .i64 ((Z : Int) + (N : Int))) (by rw [s.size_wrote, HZ.out, HNN.out]; rfl))
  clear ha3 hk3 ho3 K0 Kc Kd
  go_wp2_with fail
  obtain ⟨we, hwe⟩ : ∃ we, wd.setCell ⟨g, 6, none⟩ (.int .i64 ((Z : Int) + (N : Int))) = we := ⟨_, rfl⟩
  rw [hwe] at HT4
  rw [hwe]
  have HT5 := Lib.hid (Vt.join HK1.out HS1.out HT4.out)
  clear HT4 c6 fz hlen e5 hwe HPUT
  obtain ⟨S4, hV4, hK4, hS4⟩ := HT5.out
  have HK4 := Lib.hid hK4
  have HS4 := Lib.hid hS4
  have HV4 := Lib.hid hV4.drew
  have HSO := Lib.hid (HS.out.wrote HN.out (by rw [HZ.out, HNN.out, HM.out]; exact hm) hf)
  have K0 := Vl.cells HV4.out
  clear hV4 hK4 hS4
  go_region_held3 (fun wx => wx.cell? ⟨g, 0, none⟩ = some (.pointer (some ⟨p, 0, none⟩))) (first | exact K0 | exact Ka | exact Kb) (first | (go_at_call 46; refine (file_vl g p (k + 2) S4 d1 (s.wrote n) we.drew HSO.out HV4.out).mono ?_; rintro e wf ⟨rfl, hnf⟩; have HVf := Lib.hid (HV4.out.below (drewn_below hnf) (Nat.le_refl _)); have HBf := Lib.hid (drewn_below hnf); have Ka := Vl.cells HVf.out) | (go_at_call 85; refine (sync_vl wf g p S4 d1 (k + 2) (s.wrote n) (nmD s.num s.gen) HVf.out (by omega)).mono ?_; rintro e wg ⟨rfl, ht⟩; rw [HY.out.1, cerr_0]; have HTg := Lib.hid ht; have Kb := Vl.cells ht.choose_spec.1; clear ht))
  go_wp2
  go_ret
  exact ⟨rfl, Vt.pre ((HB3.out.trans ((Below.refl _ w3).drew.mono (Nat.le_of_lt hlt3))).trans (HBa.out.mono (Nat.le_of_lt hlt3))) (Vt.join HK4.out HS4.out (Vt.pre (((Below.refl _ we).drew).trans HBf.out) HTg.out))⟩

end Go.Proofs.YtoblbipkkdiddaaGreatDoor
end

section
namespace Go.Proofs.YtoblbipkkdiddaaGreatDoor
open Go.RowKit Go.Cor

/-- What a volume has on its disk. -/
structure Lies (d : Dsk) (k : Nat) (s : Vst) : Prop where
  fs : Fs d k
  data : ∃ X : List UInt8, X.length = 16 ∧ view d (nmD s.num s.gen) = some (X ++ nsB s.ns)
  man : ∃ m : List UInt8, view d (nmM s.num) = some m ∧ m.length = 24
  shad : view d (nmS s.num) = none
/-- A volume behind a call: where it lies, and what its disk is. -/
def VolT (w w' : World) (g p : Nat) (S : Nat → Prop) (d : Dsk) (s : Vst) (k' : Nat) (s' : Vst) : Prop :=
  ∃ d', Vt w w' g p S d' k' s' ∧ Lies d' k' s' ∧ s'.Ok ∧ d'.cap = d.cap ∧ d'.now.length = d.now.length ∧ d'.used + s.size = d.used + s'.size ∧ ∀ m, m ≠ nmD s.num s.gen → m ≠ nmM s.num → m ≠ nmS s.num → view d' m = view d m
theorem nmD_nmM (v g u : Nat) : nmM u ≠ nmD v g := fun h => by have := congrArg ByteArray.size h; cases this
theorem nmD_nmS (v g u : Nat) : nmS u ≠ nmD v g := fun h => by have := congrArg (fun x : ByteArray => x.data[0]?) h; cases this
theorem nmM_nmS (v u : Nat) : nmS u ≠ nmM v := fun h => by have := congrArg ByteArray.size h; cases this
theorem okB_dig {n : Nat} (h : n < 10) : okB (dig n) = true := by
  match n, h with
  | 0, _ | 1, _ | 2, _ | 3, _ | 4, _ | 5, _ | 6, _ | 7, _ | 8, _ | 9, _ => decide
theorem isNm_D {v g : Nat} (hv : v < 10) (hg : g < 10) : isNm (nmD v g) = true := by
  unfold isNm nmD
  simp [okB_dig hv, okB_dig hg, ByteArray.size]
  decide
theorem isNm_M {v : Nat} (hv : v < 10) : isNm (nmM v) = true := by
  unfold isNm nmM
  simp [okB_dig hv, ByteArray.size]
  decide
theorem isNm_S {v : Nat} (hv : v < 10) : isNm (nmS v) = true := by
  unfold isNm nmS
  simp [okB_dig hv, ByteArray.size]
  decide
theorem Lies.more {d : Dsk} {k k' : Nat} {s : Vst} (h : Lies d k s) (hk : k ≤ k') : Lies d k' s := ⟨h.fs.more hk, h.data, h.man, h.shad⟩
theorem VolT.self {w w' : World} {g p k k' : Nat} {S : Nat → Prop} {d : Dsk} {s : Vst} (h : Vl w g p S d k s) (hl : Lies d k s) (hs : s.Ok) (hb : Below w.heap.size w w') (hk : k ≤ k') (hk' : k' ≤ 90000) : VolT w w' g p S d s k' s :=
  ⟨d, Vt.self h hb hk hk', hl.more hk, hs, rfl, rfl, rfl, fun _ _ _ _ => rfl⟩
theorem VolT.pre {w wa w' : World} {g p k' : Nat} {S : Nat → Prop} {d : Dsk} {s s' : Vst} (hb : Below w.heap.size w wa) (h : VolT wa w' g p S d s k' s') : VolT w w' g p S d s k' s' := by
  obtain ⟨d', h1, h2⟩ := h
  exact ⟨d', Vt.pre hb h1, h2⟩
theorem VolT.post {w w1 w' : World} {g p k' : Nat} {S : Nat → Prop} {d : Dsk} {s s' : Vst} (h : VolT w w1 g p S d s k' s') (hb : Below w1.heap.size w1 w') : VolT w w' g p S d s k' s' := by
  obtain ⟨d', h1, h2⟩ := h
  exact ⟨d', Vt.post h1 hb, h2⟩

theorem write_v (n : Ndl) (v : Value) (g p k : Nat) (S : Nat → Prop) (d : Dsk) (s : Vst) (w : World) (hs : s.Ok) (h : Vl w g p S d k s) (hl : Lies d k s) (hk : k + 4 ≤ 90000)
    (hv : IsB w v n.data) (hvS : ∀ b, liesB v n.data b → ¬ S b) (hn : n.fits ∧ ncheck n = 0) (hm : s.size + nlen n ≤ s.most) (hf : s.ns.length + 1 < 4096) (hu : d.used + nlen n ≤ d.cap) :
    Calls Tryz.prog 50 #[.pointer (some ⟨g, 0, none⟩), Nd.nval n v] w fun e w' =>
      e = .returned .nilIface ∧ VolT w w' g p S d s (k + 4) (s.wrote n) := by
  obtain ⟨X, hX, hd⟩ := hl.data
  have hbl : (X ++ nsB s.ns).length = s.size := by rw [List.length_append, hX, length_nsB]; rfl
  have hms := hs.most
  have ha := hl.fs.append (l := nbytes n) hd (by rw [hbl, nlen_eq]; omega) (by rw [nlen_eq]; exact hu)
  have hy := ha.2.fs.sync ((ha.2.view (nmD s.num s.gen)).trans (if_pos rfl))
  refine (write_ok n v g p k S d s w hs h hk hv hvS hn hm hf _ hl.fs hd hbl hu).mono ?_
  rintro e w' ⟨rfl, ht⟩
  have hw := ha.2.trans hy.2
  have hvw : ∀ m, view ((d.append (nmD s.num s.gen) (nbytes n)).1.sync (nmD s.num s.gen)).1 m = if m = nmD s.num s.gen then some (X ++ nsB s.ns ++ nbytes n) else view d m := fun m => (hw.view m).trans (ha.2.view m)
  refine ⟨rfl, _, ht, ⟨hw.fs, ⟨X, hX, ?_⟩, ?_, ?_⟩, hs.wrote hn hm hf, hw.cap, ?_, ?_, fun m h1 _ _ => by rw [hvw, if_neg h1]⟩
  · show view _ (nmD s.num s.gen) = some (X ++ nsB (s.ns ++ [n]))
    rw [hvw, if_pos rfl, nsB_snoc, List.append_assoc]
  · obtain ⟨m, h1, h2⟩ := hl.man
    exact ⟨m, by show view _ (nmM s.num) = some m; rw [hvw, if_neg (nmD_nmM _ _ _), h1], h2⟩
  · show view _ (nmS s.num) = none
    rw [hvw, if_neg (nmD_nmS _ _ _), hl.shad]
  · rw [hw.len, ha.2.len]
  · rw [hw.used, ha.2.used, s.size_wrote, nlen_eq]
    omega

theorem cell_below {w w' : World} {B b o : Nat} {v : Value} (hb : Below B w w') (h : b < B) (hc : w.cell? ⟨b, o, none⟩ = some v) : w'.cell? ⟨b, o, none⟩ = some v := (World.cell?_of_block (w := w) (hb.block b h)).trans hc
/-- What the index says of a key, by what was written. -/
theorem hasN_newest (s : Vst) (k : Nat) : hasN (fnd s.idx k) = match newest s.ns k with
    | none => 0
    | some n => if n.gone = true then 1 else 2 := by
  cases h : newest s.ns k with
  | none => rw [Vst.fnd_none h]; rfl
  | some n =>
    obtain ⟨a, b, _, h2⟩ := Vst.fnd_some h
    rw [h2]
    rfl
theorem blobN_look (s : Vst) (k c : Nat) : blobN (fnd s.idx k) c = s.look k c := by
  unfold Vst.look
  cases h : newest s.ns k with
  | none => rw [Vst.fnd_none h]; rfl
  | some n =>
    obtain ⟨a, b, _, h2⟩ := Vst.fnd_some h
    rw [h2]
    rfl
theorem fb_put {w w1 : World} {n : Ndl} {v : Value} {T : TypeId} (hb : Below (w.alloc (Nd.ncells n v T)).heap.size (w.alloc (Nd.ncells n v T)) w1) : Nd.Boxed w1 w.heap.size n v ∧ Below w.heap.size w w1 ∧ w.heap.size < w1.heap.size :=
  ⟨(Nd.Boxed.new w n v T).mono hb (by simp), (below_alloc w _).trans (hb.mono (by simp)), by have := hb.size; simp at this; omega⟩

/-- No object of a call: what is wanted of a volume ahead of one. -/
structure Vready (w : World) (g p : Nat) (S : Nat → Prop) (d : Dsk) (k : Nat) (s : Vst) : Prop where
  vl : Vl w g p S d k s
  lies : Lies d k s
  ok : s.Ok
  few : k + 12 ≤ 90000
  names : d.now.length < 60
theorem Vready.same {w w' : World} {g p k : Nat} {S : Nat → Prop} {d : Dsk} {s : Vst} (h : Vready w g p S d k s) (hb : Below w.heap.size w w') (k' : Nat) (hk : k ≤ k') (hk' : k' ≤ k + 12) : VolT w w' g p S d s k' s := VolT.self h.vl h.lies h.ok hb hk (by have := h.few; omega)
theorem Vready.box {w : World} {g p k : Nat} {S : Nat → Prop} {d : Dsk} {s : Vst} (h : Vready w g p S d k s) : ∃ x v, Blk w g (vcells p x s) 107 ∧ Q.At w x v s.idx := h.vl.box
theorem Vready.below {w w' : World} {g p k : Nat} {S : Nat → Prop} {d : Dsk} {s : Vst} (h : Vready w g p S d k s) (hb : Below w.heap.size w w') : Vready w' g p S d k s := ⟨h.vl.below hb (Nat.le_refl _), h.lies, h.ok, h.few, h.names⟩
/-- There is room for a needle. -/
structure Room (s : Vst) (d : Dsk) (n : Ndl) : Prop where
  most : s.size + nlen n ≤ s.most
  few : s.ns.length + 1 < 4096
  cap : d.used + nlen n ≤ d.cap

set_option maxRecDepth 100000 in
set_option maxHeartbeats 1000000 in
theorem put_g (key cookie : Nat) (data : List UInt8) (v : Value) (g p k : Nat) (S : Nat → Prop) (d : Dsk) (s : Vst) (w : World) (h : Vready w g p S d k s) :
    Calls Tryz.prog 26 #[.pointer (some ⟨g, 0, none⟩), Nd.nval ⟨key, cookie, true, data⟩ v] w fun e w' =>
      e = .returned (cerr 1) ∧ VolT w w' g p S d s (k + 4) s := by
  have HT := Lib.hid (h.same (below_alloc w (Nd.ncells ⟨key, cookie, true, data⟩ v 48)) (k + 4) (by omega) (by omega))
  clear h
  go_enter Tryz.func26, Tryz.ntmps26
  go_wp2
  go_ret
  exact ⟨rfl, HT.out⟩
set_option maxRecDepth 100000 in
set_option maxHeartbeats 1000000 in
theorem put_b (key cookie : Nat) (data : List UInt8) (v : Value) (g p k : Nat) (S : Nat → Prop) (d : Dsk) (s : Vst) (w : World) (h : Vready w g p S d k s) (hv : IsB w v data) (hc : ncheck ⟨key, cookie, false, data⟩ ≠ 0) :
    Calls Tryz.prog 26 #[.pointer (some ⟨g, 0, none⟩), Nd.nval ⟨key, cookie, false, data⟩ v] w fun e w' =>
      e = .returned (cerr (ncheck ⟨key, cookie, false, data⟩)) ∧ VolT w w' g p S d s (k + 4) s := by
  have HVV := Lib.hid (show IsB (w.alloc (Nd.ncells ⟨key, cookie, false, data⟩ v 48)) v data from hv.mono (below_alloc w _) (Nat.le_refl _))
  have HH := Lib.hid h
  have HC := Lib.hid hc
  obtain ⟨q, hq⟩ : ∃ q, ncheck ⟨key, cookie, false, data⟩ = q := ⟨_, rfl⟩
  have HQ := Lib.hid hq
  rw [hq] at HC ⊢
  rw [cerr_pos HC.out]
  clear h hv hc hq
  go_enter Tryz.func26, Tryz.ntmps26
  go_wp2_with fail
  refine (Nd.check_any ⟨key, cookie, false, data⟩ v _ HVV.out).mono ?_
  rintro e w1 ⟨rfl, hb1⟩
  rw [HQ.out, Nd.cerr_pos HC.out]
  have HB1 := Lib.hid (fb_put (n := ⟨key, cookie, false, data⟩) hb1).2.1
  clear hb1
  go_wp2
  go_ret
  exact ⟨rfl, HH.out.same HB1.out _ (by omega) (by omega)⟩
set_option maxRecDepth 100000 in
set_option maxHeartbeats 1000000 in
theorem put_s (key cookie : Nat) (data : List UInt8) (v : Value) (g p k : Nat) (S : Nat → Prop) (d : Dsk) (s : Vst) (w : World) (h : Vready w g p S d k s) (hv : IsB w v data) (hc : ncheck ⟨key, cookie, false, data⟩ = 0) (hsh : s.shut = true) :
    Calls Tryz.prog 26 #[.pointer (some ⟨g, 0, none⟩), Nd.nval ⟨key, cookie, false, data⟩ v] w fun e w' =>
      e = .returned (cerr 10) ∧ VolT w w' g p S d s (k + 4) s := by
  have HVV := Lib.hid (show IsB (w.alloc (Nd.ncells ⟨key, cookie, false, data⟩ v 48)) v data from hv.mono (below_alloc w _) (Nat.le_refl _))
  have HH := Lib.hid h
  have HC := Lib.hid hc
  have HSH := Lib.hid hsh
  clear h hv hc hsh
  go_enter Tryz.func26, Tryz.ntmps26
  go_wp2_with fail
  refine (Nd.check_any ⟨key, cookie, false, data⟩ v _ HVV.out).mono ?_
  rintro e w1 ⟨rfl, hb1⟩
  rw [HC.out, Nd.cerr_0]
  have HB1 := Lib.hid (fb_put (n := ⟨key, cookie, false, data⟩) hb1).2.1
  obtain ⟨x, xv, hbox, hix⟩ := (HH.out.below HB1.out).box
  obtain ⟨_, _, _, _, c4, _, _, _, _⟩ := vbox_facts hbox
  rw [HSH.out] at c4
  clear hb1 hbox hix
  go_wp2
  go_ret
  exact ⟨rfl, HH.out.same HB1.out _ (by omega) (by omega)⟩
set_option maxRecDepth 100000 in
set_option maxHeartbeats 1000000 in
theorem put_t (key cookie : Nat) (data : List UInt8) (v : Value) (g p k : Nat) (S : Nat → Prop) (d : Dsk) (s : Vst) (w : World) (h : Vready w g p S d k s) (hv : IsB w v data) (hc : ncheck ⟨key, cookie, false, data⟩ = 0) (hsh : s.shut = false) (q : Nat) (hq : q = 1 ∨ q = 2) (hf : hasN (fnd s.idx key) = q) :
    Calls Tryz.prog 26 #[.pointer (some ⟨g, 0, none⟩), Nd.nval ⟨key, cookie, false, data⟩ v] w fun e w' =>
      e = .returned (cerr (if q = 1 then 7 else 8)) ∧ VolT w w' g p S d s (k + 4) s := by
  have HVV := Lib.hid (show IsB (w.alloc (Nd.ncells ⟨key, cookie, false, data⟩ v 48)) v data from hv.mono (below_alloc w _) (Nat.le_refl _))
  have HH := Lib.hid h
  have HC := Lib.hid hc
  have HSH := Lib.hid hsh
  have HF := Lib.hid hf
  clear h hv hc hsh hf
  go_enter Tryz.func26, Tryz.ntmps26
  go_wp2_with fail
  refine (Nd.check_any ⟨key, cookie, false, data⟩ v _ HVV.out).mono ?_
  rintro e w1 ⟨rfl, hb1⟩
  rw [HC.out, Nd.cerr_0]
  have HX1 := Lib.hid (fb_put (n := ⟨key, cookie, false, data⟩) hb1)
  obtain ⟨⟨b0, b1, b2, b3⟩, hB1, hlt1⟩ := HX1.out
  have HB1 := Lib.hid hB1
  obtain ⟨x, xv, hbox, hix⟩ := (HH.out.below HB1.out).box
  obtain ⟨_, _, _, _, c4, _, _, _, _⟩ := vbox_facts hbox
  rw [HSH.out] at c4
  have HFV := Lib.hid (find_v g p x xv s key _ HH.out.ok hbox hix)
  clear hb1 hB1 hbox hix HX1
  go_wp2_with fail
  refine HFV.out.mono ?_
  rintro e w2 ⟨rfl, hb2⟩
  rw [HF.out]
  have HB2 := Lib.hid (HB1.out.trans (hb2.mono HB1.out.size))
  have HT := Lib.hid (fun o2 => HH.out.same (HB2.out.alloc HB2.out.size o2) (k + 4) (by omega) (by omega))
  clear hb2 c4 b0 b1 b2 b3 HFV
  rcases hq with rfl | rfl
  · go_wp2
    go_ret
    exact ⟨rfl, HT.out _⟩
  · go_wp2
    go_ret
    exact ⟨rfl, HT.out _⟩
set_option maxRecDepth 100000 in
set_option maxHeartbeats 1000000 in
theorem put_n (key cookie : Nat) (data : List UInt8) (v : Value) (g p k : Nat) (S : Nat → Prop) (d : Dsk) (s : Vst) (w : World) (h : Vready w g p S d k s) (hv : IsB w v data) (hvS : ∀ b, liesB v data b → ¬ S b) (hn : Ndl.fits ⟨key, cookie, false, data⟩) (hc : ncheck ⟨key, cookie, false, data⟩ = 0) (hsh : s.shut = false) (hf : hasN (fnd s.idx key) = 0) (hr : Room s d ⟨key, cookie, false, data⟩) :
    Calls Tryz.prog 26 #[.pointer (some ⟨g, 0, none⟩), Nd.nval ⟨key, cookie, false, data⟩ v] w fun e w' =>
      e = .returned .nilIface ∧ VolT w w' g p S d s (k + 4) (s.wrote ⟨key, cookie, false, data⟩) := by
  have HVV := Lib.hid (show IsB (w.alloc (Nd.ncells ⟨key, cookie, false, data⟩ v 48)) v data from hv.mono (below_alloc w _) (Nat.le_refl _))
  have HV := Lib.hid hv
  have HH := Lib.hid h
  have HC := Lib.hid hc
  have HSH := Lib.hid hsh
  have HF := Lib.hid hf
  have HVS := Lib.hid hvS
  have HNF := Lib.hid hn
  have HR := Lib.hid hr
  clear h hv hc hsh hf hvS hn hr
  go_enter Tryz.func26, Tryz.ntmps26
  go_wp2_with fail
  refine (Nd.check_any ⟨key, cookie, false, data⟩ v _ HVV.out).mono ?_
  rintro e w1 ⟨rfl, hb1⟩
  rw [HC.out, Nd.cerr_0]
  have HX1 := Lib.hid (fb_put (n := ⟨key, cookie, false, data⟩) hb1)
  obtain ⟨⟨b0, b1, b2, b3⟩, hB1, hlt1⟩ := HX1.out
  have HB1 := Lib.hid hB1
  obtain ⟨x, xv, hbox, hix⟩ := (HH.out.below HB1.out).box
  obtain ⟨_, _, _, _, c4, _, _, _, _⟩ := vbox_facts hbox
  rw [HSH.out] at c4
  have HFV := Lib.hid (find_v g p x xv s key _ HH.out.ok hbox hix)
  clear hb1 hB1 hbox hix
  go_wp2_with fail
  refine HFV.out.mono ?_
  rintro e w2 ⟨rfl, hb2⟩
  rw [HF.out]
  have HB2 := Lib.hid (HB1.out.trans (hb2.mono HB1.out.size))
  have HX2 := Lib.hid (HX1.out.1.mono hb2 hlt1)
  have hlt2 : w.heap.size < w2.heap.size := Nat.lt_of_lt_of_le hlt1 hb2.size
  clear hb2 c4 b0 b1 b2 b3 HFV HX1
  obtain ⟨b0, b1, b2, b3⟩ := HX2.out
  simp only at b0 b1 b2 b3
  go_wp2_with fail
  refine (write_v ⟨key, cookie, false, data⟩ v g p k S d s _ HH.out.ok (HH.out.vl.below (HB2.out.alloc HB2.out.size _) (Nat.le_refl _)) HH.out.lies (by have := HH.out.few; omega) (HV.out.mono (HB2.out.alloc HB2.out.size _) (Nat.le_refl _)) HVS.out ⟨HNF.out, HC.out⟩ HR.out.most HR.out.few HR.out.cap).mono ?_
  rintro e w3 ⟨rfl, ht⟩
  have HT := Lib.hid (VolT.pre (HB2.out.alloc HB2.out.size _) ht)
  clear ht b0 b1 b2 b3
  go_wp2
  go_ret
  exact ⟨rfl, HT.out⟩
theorem put_v (n : Ndl) (v : Value) (g p k : Nat) (S : Nat → Prop) (d : Dsk) (s : Vst) (w : World) (h : Vready w g p S d k s) (hv : IsB w v n.data) (hvS : ∀ b, liesB v n.data b → ¬ S b) (hn : n.fits) (hr : Room s d n) :
    Calls Tryz.prog 26 #[.pointer (some ⟨g, 0, none⟩), Nd.nval n v] w fun e w' =>
      e = .returned (cerr (s.put n).2) ∧ VolT w w' g p S d s (k + 4) (s.put n).1 := by
  obtain ⟨key, cookie, gone, data⟩ := n
  cases gone with
  | true =>
    rw [Vst.put_gone rfl]
    exact put_g key cookie data v g p k S d s w h
  | false =>
    by_cases hc : ncheck ⟨key, cookie, false, data⟩ = 0
    · cases hsh : s.shut with
      | true =>
        rw [Vst.put_shut rfl hc hsh]
        exact put_s key cookie data v g p k S d s w h hv hc hsh
      | false =>
        have hf := hasN_newest s key
        cases ho : newest s.ns key with
        | some o =>
          rw [Vst.put_there (n := ⟨key, cookie, false, data⟩) rfl hc hsh ho]
          rw [ho] at hf
          simp only at hf
          cases hg : o.gone with
          | true =>
            rw [hg, if_pos rfl] at hf
            exact put_t key cookie data v g p k S d s w h hv hc hsh 1 (.inl rfl) hf
          | false =>
            rw [hg, if_neg (by decide)] at hf
            exact put_t key cookie data v g p k S d s w h hv hc hsh 2 (.inr rfl) hf
        | none =>
          rw [Vst.put_new (n := ⟨key, cookie, false, data⟩) rfl hc hsh ho hr.most]
          rw [ho] at hf
          exact put_n key cookie data v g p k S d s w h hv hvS hn hc hsh hf hr
    · rw [Vst.put_bad rfl hc]
      exact put_b key cookie data v g p k S d s w h hv hc

end Go.Proofs.YtoblbipkkdiddaaGreatDoor
end

section
namespace Go.Proofs.YtoblbipkkdiddaaGreatDoor
open Go.RowKit Go.Cor

theorem del_bad {s : Vst} {k c : Nat} (h : s.look k c ≠ 0) : s.del k c = (s, s.look k c) := by unfold Vst.del; rw [if_pos h]
theorem del_shut {s : Vst} {k c : Nat} (h : s.look k c = 0) (hs : s.shut = true) : s.del k c = (s, 10) := by unfold Vst.del; rw [if_neg (by simp [h]), if_pos hs]
theorem del_ok {s : Vst} {k c : Nat} (h : s.look k c = 0) (hs : s.shut = false) (hm : s.size + nlen (grave k c) ≤ s.most) : s.del k c = (s.wrote (grave k c), 0) := by
  unfold Vst.del; rw [if_neg (by simp [h]), if_neg (by simp [hs])]
  unfold Vst.write; rw [if_neg (by omega)]
theorem look_some {s : Vst} {k c : Nat} (h : s.look k c = 0) : ∃ n a b, newest s.ns k = some n ∧ n.gone = false ∧ n.cookie = c ∧ n.key = k ∧ s.ns = a ++ n :: b ∧ fnd s.idx k = some (posN n (16 + tot a)) := by
  unfold Vst.look at h
  cases ho : newest s.ns k with
  | none => rw [ho] at h; simp at h
  | some n =>
    rw [ho] at h
    simp only at h
    obtain ⟨a, b, h1, h2⟩ := Vst.fnd_some ho
    cases hg : n.gone with
    | true => rw [hg] at h; simp at h
    | false =>
      rw [hg] at h
      simp only [Bool.false_eq_true, if_false] at h
      have hc : n.cookie = c := by
        by_cases e : n.cookie = c
        · exact e
        · simp [e] at h
      exact ⟨n, a, b, rfl, hg, hc, (newest_mem ho).2, h1, h2⟩

set_option maxRecDepth 100000 in
set_option maxHeartbeats 1000000 in
theorem del_b (key c g p k : Nat) (S : Nat → Prop) (d : Dsk) (s : Vst) (w : World) (h : Vready w g p S d k s) (hn : s.look key c ≠ 0) :
    Calls Tryz.prog 65 #[.pointer (some ⟨g, 0, none⟩), .int .u64 (key : Int), .int .u32 (c : Int)] w fun e w' =>
      e = .returned (ercode (s.look key c)) ∧ VolT w w' g p S d s (k + 4) s := by
  have HH := Lib.hid h
  obtain ⟨x, xv, hbox, hix⟩ := h.box
  have HB := Lib.hid (blob_bad g p x xv s key c w h.ok hbox hix (by rw [blobN_look]; exact hn))
  rw [blobN_look] at HB
  obtain ⟨q, hq⟩ : ∃ q, s.look key c = q := ⟨_, rfl⟩
  rw [hq] at HB ⊢
  clear h hbox hix hn hq
  go_enter Tryz.func65, Tryz.ntmps65
  go_wp2_with fail
  refine HB.out.mono ?_
  rintro e w1 ⟨rfl, hb1⟩
  have HT := Lib.hid (fun o => HH.out.same (hb1.alloc hb1.size o) (k + 4) (by omega) (by omega))
  clear hb1
  go_wp2
  go_ret
  exact ⟨rfl, HT.out _⟩
set_option maxRecDepth 100000 in
set_option maxHeartbeats 1000000 in
theorem del_s (key c g p k : Nat) (S : Nat → Prop) (d : Dsk) (s : Vst) (w : World) (h : Vready w g p S d k s) (hn : s.look key c = 0) (hs : s.shut = true) :
    Calls Tryz.prog 65 #[.pointer (some ⟨g, 0, none⟩), .int .u64 (key : Int), .int .u32 (c : Int)] w fun e w' =>
      e = .returned (ercode 10) ∧ VolT w w' g p S d s (k + 4) s := by
  have HH := Lib.hid h
  obtain ⟨x, xv, hbox, hix⟩ := h.box
  obtain ⟨n, a, b, _, _, _, _, _, hf⟩ := look_some hn
  have HB := Lib.hid (blob_ok g p x xv s key c _ w h.ok hbox hix hf (by rw [← hf, blobN_look]; exact hn))
  have HBO := Lib.hid hbox
  have HS := Lib.hid hs
  clear h hbox hix hn hf hs
  go_enter Tryz.func65, Tryz.ntmps65
  go_wp2_with fail
  refine HB.out.mono ?_
  rintro e w1 ⟨rfl, hb1⟩
  have HT := Lib.hid (fun o => HH.out.same (hb1.alloc hb1.size o) (k + 4) (by omega) (by omega))
  obtain ⟨_, _, _, _, c4, _, _, _, _⟩ := vbox_facts (HBO.out.below hb1 HBO.out.lt)
  rw [HS.out] at c4
  have hlt : g < w1.heap.size := Nat.lt_of_lt_of_le HBO.out.lt hb1.size
  clear hb1
  go_wp2
  go_ret
  exact ⟨rfl, HT.out _⟩
set_option maxRecDepth 100000 in
set_option maxHeartbeats 1000000 in
theorem del_o (key c g p k : Nat) (S : Nat → Prop) (d : Dsk) (s : Vst) (w : World) (h : Vready w g p S d k s) (hn : s.look key c = 0) (hs : s.shut = false) (hk : key < 18446744073709551616) (hc : c < 4294967296) (hr : Room s d (grave key c)) :
    Calls Tryz.prog 65 #[.pointer (some ⟨g, 0, none⟩), .int .u64 (key : Int), .int .u32 (c : Int)] w fun e w' =>
      e = .returned .nilIface ∧ VolT w w' g p S d s (k + 4) (s.wrote (grave key c)) := by
  have HH := Lib.hid h
  obtain ⟨x, xv, hbox, hix⟩ := h.box
  obtain ⟨n, a, b, _, _, _, _, _, hf⟩ := look_some hn
  have HB := Lib.hid (blob_ok g p x xv s key c _ w h.ok hbox hix hf (by rw [← hf, blobN_look]; exact hn))
  have HBO := Lib.hid hbox
  have HS := Lib.hid hs
  have HR := Lib.hid hr
  have HG := Lib.hid (grave_ok hk hc)
  clear h hbox hix hn hf hs hr hk hc
  go_enter Tryz.func65, Tryz.ntmps65
  go_wp2_with fail
  refine HB.out.mono ?_
  rintro e w1 ⟨rfl, hb1⟩
  have HB1 := Lib.hid (fun o => hb1.alloc hb1.size o)
  obtain ⟨_, _, _, _, c4, _, _, _, _⟩ := vbox_facts (HBO.out.below hb1 HBO.out.lt)
  rw [HS.out] at c4
  have hlt : g < w1.heap.size := Nat.lt_of_lt_of_le HBO.out.lt hb1.size
  clear hb1
  go_wp2_with fail
  refine (write_v (grave key c) (.slice none 0 0) g p k S d s _ HH.out.ok (HH.out.vl.below (HB1.out _) (Nat.le_refl _)) HH.out.lies (by have := HH.out.few; omega) (IsB.nil _) (fun b hb => absurd rfl hb.1) HG.out HR.out.most HR.out.few HR.out.cap).mono ?_
  rintro e w3 ⟨rfl, ht⟩
  have HT := Lib.hid (VolT.pre (HB1.out _) ht)
  clear ht c4
  go_wp2
  go_ret
  exact ⟨rfl, HT.out⟩
theorem size_n (n : Ndl) (w : World) (h : n.data.length ≤ 4096) :
    Calls Tryz.prog 74 #[.int .i64 (n.data.length : Int)] w fun e w' => e = .returned (.int .i64 (nlen n : Int)) ∧ w = w' := by
  refine (Nd.size_any (n.data.length : Int) w (by omega) (by omega)).mono ?_
  rintro e w' ⟨rfl, rfl⟩
  rw [Nd.nsize_nat h]
  exact ⟨rfl, rfl⟩
theorem read_vl (w : World) (g p : Nat) (S : Nat → Prop) (d : Dsk) (k : Nat) (s : Vst) (n : ByteArray) (b : List UInt8) (off m : Nat) (h : Vl w g p S d k s) (hf : Fs d k) (hv : view d n = some b) (hb : off + m ≤ b.length) (hl : b.length ≤ 16777216) :
    Calls Tryz.prog 73 #[.pointer (some ⟨p, 0, none⟩), .string n, .int .i64 (off : Int), .int .i64 (m : Int)] w fun e w' =>
      ∃ v', e = .returned (.tuple #[v', .nilIface]) ∧ w'.ownsRow w.heap.size 5 1 v' m (bvs ((b.drop off).take m)) ∧ Below w.heap.size w w' := by
  obtain ⟨Sd, h1, h2, h3⟩ := h.disk
  refine (read_u w p Sd d k n (off : Int) (m : Int) h1 (by omega) (by omega) (by omega) (by omega)).mono ?_
  rintro e w' ⟨v', rfl, ho, hb2⟩
  rw [hf.read hv hb] at ho ⊢
  refine ⟨v', rfl, ?_, hb2⟩
  simp only at ho
  rw [show ((b.drop off).take m).length = m by simp; omega] at ho
  exact ho
theorem rk_below {wx wy : World} {g B : Nat} {a c1 c2 : Value} (hb : Below wx.heap.size wx wy) (hg : g < wx.heap.size) (hB : B < wx.heap.size)
    (K : wx.cell? ⟨g, 0, none⟩ = some a ∧ wx.cell? ⟨B, 1, none⟩ = some c1 ∧ wx.cell? ⟨B, 2, none⟩ = some c2) : wy.cell? ⟨g, 0, none⟩ = some a ∧ wy.cell? ⟨B, 1, none⟩ = some c1 ∧ wy.cell? ⟨B, 2, none⟩ = some c2 :=
  ⟨cell_below hb hg K.1, cell_below hb hB K.2.1, cell_below hb hB K.2.2⟩

set_option maxRecDepth 100000 in
set_option maxHeartbeats 1000000 in
theorem raw_v (n : Ndl) (off : Nat) (b : List UInt8) (g p k : Nat) (S : Nat → Prop) (d : Dsk) (s : Vst) (w : World) (h : Vready w g p S d k s) (hv : view d (nmD s.num s.gen) = some b) (hb : off + nlen n ≤ b.length) (hl : b.length ≤ 16777216) (hn : n.data.length ≤ 4096) :
    Calls Tryz.prog 43 #[.pointer (some ⟨g, 0, none⟩), Q.pval (posN n off)] w fun e w' =>
      ∃ v', e = .returned (.tuple #[v', .nilIface]) ∧ w'.ownsRow w.heap.size 5 1 v' (nlen n) (bvs ((b.drop off).take (nlen n))) ∧ Below w.heap.size w w' := by
  obtain ⟨L, hL⟩ : ∃ L, n.data.length = L := ⟨_, rfl⟩
  have HH := Lib.hid h
  have HV := Lib.hid hv
  have HB := Lib.hid hb
  have HL := Lib.hid hl
  have HN := Lib.hid hn
  have HLL := Lib.hid hL
  have HSZ := Lib.hid (fun w => size_n n w hn)
  rw [hL] at HSZ
  obtain ⟨M, hM⟩ : ∃ M, nlen n = M := ⟨_, rfl⟩
  rw [hM] at HSZ HB ⊢
  simp only [posN, hL]
  obtain ⟨key, cookie, gone, data⟩ := n
  simp only
  clear h hv hb hl hn hL hM
  have hal := below_alloc w (.cells #[.int .u64 (key : Int), .int .i64 (off : Int), .int .i64 (L : Int), .int .u32 (cookie : Int), .bool gone] 83)
  have HAL := Lib.hid hal
  have HVL := Lib.hid ((HH.out.vl.below hal (Nat.le_refl _)).drew)
  obtain ⟨z0, z1, z2, z3, z4, _⟩ := Q.blk5_facts (Blk.new w #[.int .u64 (key : Int), .int .i64 (off : Int), .int .i64 (L : Int), .int .u32 (cookie : Int), .bool gone] 83)
  obtain ⟨w0, hw0⟩ : ∃ w0, w.alloc (.cells #[.int .u64 (key : Int), .int .i64 (off : Int), .int .i64 (L : Int), .int .u32 (cookie : Int), .bool gone] 83) = w0 := ⟨_, rfl⟩
  have hgl : g < w0.heap.size := by
    have h1 := HVL.out.lt g
    obtain ⟨x, v, Sd, _, hS⟩ := HVL.out
    have h2 := h1 ((hS g).2 (.inl rfl))
    rw [hw0] at h2
    exact h2
  have hBl : w.heap.size < w0.heap.size := by rw [← hw0]; simp
  go_enter Tryz.func43, Tryz.ntmps43
  go_upto_region 3 with fail
  rw [hw0] at HAL HVL z1 z2
  have K0 : w0.drew.cell? ⟨g, 0, none⟩ = some (.pointer (some ⟨p, 0, none⟩)) ∧ w0.drew.cell? ⟨w.heap.size, 1, none⟩ = some (.int .i64 (off : Int)) ∧ w0.drew.cell? ⟨w.heap.size, 2, none⟩ = some (.int .i64 (L : Int)) := ⟨Vl.cells HVL.out, z1, z2⟩
  clear z0 z1 z2 z3 z4 hw0 hal
  go_region_held3 (fun wx => wx.cell? ⟨g, 0, none⟩ = some (.pointer (some ⟨p, 0, none⟩)) ∧ wx.cell? ⟨w.heap.size, 1, none⟩ = some (.int .i64 (off : Int)) ∧ wx.cell? ⟨w.heap.size, 2, none⟩ = some (.int .i64 (L : Int))) (first | exact K0 | exact Ka | exact Kb) (first | (go_at_call 46; refine (file_vl g p k S d s w0.drew HH.out.ok HVL.out).mono ?_; rintro e wa ⟨rfl, hna⟩; have HBa := Lib.hid (drewn_below hna); have HVa := Lib.hid (HVL.out.below HBa.out (Nat.le_refl _)); have Ka := rk_below HBa.out hgl hBl K0) | (go_at_call 74; refine (HSZ.out _).mono ?_; rintro e wz ⟨rfl, rfl⟩) | (go_at_call 73; refine (read_vl wa g p S d k s (nmD s.num s.gen) b off M HVa.out HH.out.lies.fs HV.out HB.out HL.out).mono ?_; rintro e wb ⟨vb, rfl, hown, hbb⟩; have Kb := rk_below hbb (Nat.lt_of_lt_of_le hgl HBa.out.size) (Nat.lt_of_lt_of_le hBl HBa.out.size) Ka))
  have HO := Lib.hid (ownsRow_base hown (base' := w.heap.size) (Nat.le_of_lt (Nat.lt_of_lt_of_le hBl HBa.out.size)))
  have HBF := Lib.hid (((HAL.out.trans ((Below.refl _ w0).drew.mono (Nat.le_of_lt hBl))).trans (HBa.out.mono (Nat.le_of_lt hBl))).trans (hbb.mono (Nat.le_of_lt (Nat.lt_of_lt_of_le hBl HBa.out.size))))
  clear hown hbb K0 Ka Kb
  go_wp2
  go_ret2
  exact ⟨vb, rfl, HO.out, HBF.out⟩

theorem Tryz.eqlPosV (p q : Pos) (w : World) : (binOp .neq 83 (Q.pval p) (Q.pval q)).run Tryz.prog w = .ok (.bool (decide (p ≠ q))) w := by
  have hS : Tryz.prog.underlying 83 = some (.struct (Tryz.prog.fieldsOf 83)) := by kernel_rfl
  have hp : Tryz.prog.stoodInHeld 83 = false := by kernel_rfl
  have h : (Op.equalIn 10000 83 (Q.pval p) (Q.pval q)).run Tryz.prog w = .ok (decide (p.key = q.key) && (decide (p.off = q.off) && (decide (p.len = q.len) && (decide (p.cookie = q.cookie) && decide (p.gone = q.gone))))) w := by
    rw [show (10000 : Nat) = 9999 + 1 from rfl, run_equalIn_agg w 9999 83 _ _ hS hp]
    simp only [Program.fieldsOf, Tryz.underlying83]
    go_simp
    by_cases h1 : p.key = q.key <;> by_cases h2 : p.off = q.off <;> by_cases h3 : p.len = q.len <;> by_cases h4 : p.cookie = q.cookie <;> by_cases h5 : p.gone = q.gone <;> simp [h1, h2, h3, h4, h5, Int.natCast_inj]
  rw [run_neq_struct, h]
  refine congrArg (fun b => Result.ok (Value.bool b) w) (a₁ := !(decide (p.key = q.key) && (decide (p.off = q.off) && (decide (p.len = q.len) && (decide (p.cookie = q.cookie) && decide (p.gone = q.gone)))))) ?_
  rw [Bool.eq_iff_iff]
  simp only [Bool.not_eq_true', Bool.and_eq_false_iff, decide_eq_false_iff_not, decide_eq_true_eq]
  constructor
  · intro h e
    subst e
    simp at h
  · intro hne
    by_cases h1 : p.key = q.key
    · by_cases h2 : p.off = q.off
      · by_cases h3 : p.len = q.len
        · by_cases h4 : p.cookie = q.cookie
          · by_cases h5 : p.gone = q.gone
            · exact absurd (Pos.ext' h1 h2 h3 h4 h5) hne
            · exact .inr (.inr (.inr (.inr h5)))
          · exact .inr (.inr (.inr (.inl h4)))
        · exact .inr (.inr (.inl h3))
      · exact .inr (.inl h2)
    · exact .inl h1
theorem Tryz.guardPosV : Tryz.prog.eqGuardType Tryz.prog.depth 83 = false := by kernel_rfl

theorem got_n (n : Ndl) (v : Value) (w : World) (hv : IsB w v (nbytes n)) (hn : n.fits) (hc : ncheck n = 0) :
    Calls Tryz.prog 44 #[v] w fun e w' => ∃ x c, e = .returned (.tuple #[Nd.nval n (.slice x n.data.length c), .int .i64 (nlen n : Int), .nilIface]) ∧ w'.ownsRow w.heap.size 5 1 (.slice x n.data.length c) n.data.length (bvs n.data) ∧ Below w.heap.size w w' := by
  have hl := nlen_eq n
  have hd := (ncheck_ok hc).1
  have hpd := padn_lt n.data.length
  have hnl : nlen n ≤ 1099511627776 := by unfold nlen; omega
  have hn32 : 32 ≤ nlen n := by unfold nlen; omega
  obtain ⟨g1, g2, g3⟩ := get_put hn hc []
  rw [List.append_nil] at g1 g2 g3
  obtain ⟨l, hL⟩ : ∃ l, nbytes n = l := ⟨_, rfl⟩
  rw [hL] at hv hl g1 g2 g3
  have h0 : ¬ l.length < 32 := by omega
  unfold getCode at g1
  rw [if_neg h0] at g1
  cases hF : formedB l with
  | false => rw [hF] at g1; simp at g1
  | true =>
    have h3 : ¬ l.length < total l := by omega
    rw [if_neg (by rw [hF]; simp), if_neg h3] at g1
    cases hS : sumOkN l with
    | false => rw [hS] at g1; simp at g1
    | true =>
      rw [if_neg (by rw [hS]; simp)] at g1
      cases hZ : zeroB (padOf l) with
      | false => rw [hZ] at g1; simp at g1
      | true =>
        refine (Nd.get_okN v l w hv (by omega) (by omega) hF (by omega) hS hZ).mono ?_
        rintro e w' ⟨v', rfl, hown, hb⟩
        have hdat : dataOf l = n.data := congrArg Ndl.data g2
        rw [hdat] at hown
        obtain ⟨x, c, rfl, _, _⟩ := ownsRow_slice hown
        refine ⟨x, c, ?_, hown, hb⟩
        rw [g2, g3, hl]
theorem four_below {wx wy : World} {B : Nat} {c0 c1 c2 c3 : Value} (hb : Below wx.heap.size wx wy) (hB : B < wx.heap.size)
    (K : wx.cell? ⟨B, 0, none⟩ = some c0 ∧ wx.cell? ⟨B, 1, none⟩ = some c1 ∧ wx.cell? ⟨B, 2, none⟩ = some c2 ∧ wx.cell? ⟨B, 3, none⟩ = some c3) : wy.cell? ⟨B, 0, none⟩ = some c0 ∧ wy.cell? ⟨B, 1, none⟩ = some c1 ∧ wy.cell? ⟨B, 2, none⟩ = some c2 ∧ wy.cell? ⟨B, 3, none⟩ = some c3 :=
  ⟨cell_below hb hB K.1, cell_below hb hB K.2.1, cell_below hb hB K.2.2.1, cell_below hb hB K.2.2.2⟩
theorem gk_below {wx wy : World} {B A : Nat} {c0 c1 c2 c3 p0 p1 p2 p3 p4 : Value} (hb : Below wx.heap.size wx wy) (hB : B < wx.heap.size) (hA : A < wx.heap.size)
    (K : wx.cell? ⟨B, 0, none⟩ = some c0 ∧ wx.cell? ⟨B, 1, none⟩ = some c1 ∧ wx.cell? ⟨B, 2, none⟩ = some c2 ∧ wx.cell? ⟨B, 3, none⟩ = some c3 ∧ wx.cell? ⟨A, 0, none⟩ = some p0 ∧ wx.cell? ⟨A, 1, none⟩ = some p1 ∧ wx.cell? ⟨A, 2, none⟩ = some p2 ∧ wx.cell? ⟨A, 3, none⟩ = some p3 ∧ wx.cell? ⟨A, 4, none⟩ = some p4) :
    wy.cell? ⟨B, 0, none⟩ = some c0 ∧ wy.cell? ⟨B, 1, none⟩ = some c1 ∧ wy.cell? ⟨B, 2, none⟩ = some c2 ∧ wy.cell? ⟨B, 3, none⟩ = some c3 ∧ wy.cell? ⟨A, 0, none⟩ = some p0 ∧ wy.cell? ⟨A, 1, none⟩ = some p1 ∧ wy.cell? ⟨A, 2, none⟩ = some p2 ∧ wy.cell? ⟨A, 3, none⟩ = some p3 ∧ wy.cell? ⟨A, 4, none⟩ = some p4 :=
  ⟨cell_below hb hB K.1, cell_below hb hB K.2.1, cell_below hb hB K.2.2.1, cell_below hb hB K.2.2.2.1, cell_below hb hA K.2.2.2.2.1, cell_below hb hA K.2.2.2.2.2.1, cell_below hb hA K.2.2.2.2.2.2.1, cell_below hb hA K.2.2.2.2.2.2.2.1, cell_below hb hA K.2.2.2.2.2.2.2.2⟩

end Go.Proofs.YtoblbipkkdiddaaGreatDoor
end

section
namespace Go.Proofs.YtoblbipkkdiddaaGreatDoor
open Go.RowKit Go.Cor

def set4 (w : World) (g : Nat) (u0 u1 u2 u3 : Value) : World := (((w.setCell ⟨g, 0, none⟩ u0).setCell ⟨g, 1, none⟩ u1).setCell ⟨g, 2, none⟩ u2).setCell ⟨g, 3, none⟩ u3
theorem blk_set4 {w : World} {g : Nat} {a0 a1 a2 a3 : Value} {T : TypeId} (h : Blk w g #[a0, a1, a2, a3] T) (u0 u1 u2 u3 : Value) : Blk (set4 w g u0 u1 u2 u3) g #[u0, u1, u2, u3] T := by
  have h1 := (((h.set 0 u0).set 1 u1).set 2 u2).set 3 u3
  exact h1
theorem below_set4 {w0 w : World} {B g : Nat} {u0 u1 u2 u3 : Value} (hb : Below B w0 w) (hB : B ≤ g) : Below B w0 (set4 w g u0 u1 u2 u3) :=
  (((hb.setCell hB _).setCell hB _).setCell hB _).setCell hB _
theorem set4_facts {w w1 : World} {B : Nat} {a0 a1 a2 a3 : Value} {T : TypeId} (h : Blk w1 B #[a0, a1, a2, a3] T) (hb : Below B w w1) (u0 u1 u2 u3 : Value) (o : Obj) :
    ((set4 w1 B u0 u1 u2 u3).alloc o).cell? ⟨B, 0, none⟩ = some u0 ∧ ((set4 w1 B u0 u1 u2 u3).alloc o).cell? ⟨B, 1, none⟩ = some u1 ∧ ((set4 w1 B u0 u1 u2 u3).alloc o).cell? ⟨B, 2, none⟩ = some u2 ∧
    ((set4 w1 B u0 u1 u2 u3).alloc o).cell? ⟨B, 3, none⟩ = some u3 ∧ Below B w ((set4 w1 B u0 u1 u2 u3).alloc o) := by
  have hz := (blk_set4 h u0 u1 u2 u3).alloc o
  exact ⟨hz.cell 0 rfl, hz.cell 1 rfl, hz.cell 2 rfl, hz.cell 3 rfl, (below_set4 hb (Nat.le_refl B)).alloc (Nat.le_of_lt (blk_set4 h u0 u1 u2 u3).lt) o⟩
theorem set4_done {w w1 : World} {B : Nat} {a0 a1 a2 a3 : Value} {T : TypeId} (h : Blk w1 B #[a0, a1, a2, a3] T) (hb : Below B w w1) (u0 u1 u2 u3 : Value) :
    (set4 w1 B u0 u1 u2 u3).cell? ⟨B, 0, none⟩ = some u0 ∧ (set4 w1 B u0 u1 u2 u3).cell? ⟨B, 1, none⟩ = some u1 ∧ (set4 w1 B u0 u1 u2 u3).cell? ⟨B, 2, none⟩ = some u2 ∧
    (set4 w1 B u0 u1 u2 u3).cell? ⟨B, 3, none⟩ = some u3 ∧ Below B w (set4 w1 B u0 u1 u2 u3) := by
  have hz := blk_set4 h u0 u1 u2 u3
  exact ⟨hz.cell 0 rfl, hz.cell 1 rfl, hz.cell 2 rfl, hz.cell 3 rfl, below_set4 hb (Nat.le_refl B)⟩

set_option maxRecDepth 100000 in
set_option maxHeartbeats 1000000 in
theorem get_b (key c g p k : Nat) (S : Nat → Prop) (d : Dsk) (s : Vst) (w : World) (h : Vready w g p S d k s) (hn : s.look key c ≠ 0) :
    Calls Tryz.prog 22 #[.pointer (some ⟨g, 0, none⟩), .int .u64 (key : Int), .int .u32 (c : Int)] w fun e w' =>
      e = .returned (.tuple #[Nd.nzero, ercode (s.look key c)]) ∧ Below w.heap.size w w' := by
  have hal := below_alloc w (.cells #[.int .u64 0, .int .u32 0, .bool false, .slice none 0 0] 48)
  have HAL := Lib.hid hal
  have h0 := h.below hal
  obtain ⟨x, xv, hbox, hix⟩ := h0.box
  have HB := Lib.hid (blob_bad g p x xv s key c _ h.ok hbox hix (by rw [blobN_look]; exact hn))
  rw [blobN_look] at HB
  obtain ⟨q, hq⟩ : ∃ q, s.look key c = q := ⟨_, rfl⟩
  rw [hq] at HB ⊢
  clear h h0 hbox hix hn hq hal
  go_enter Tryz.func22, Tryz.ntmps22
  go_wp2_with fail
  refine HB.out.mono ?_
  rintro e w1 ⟨rfl, hb1⟩
  have HX := Lib.hid ((Blk.new w #[.int .u64 0, .int .u32 0, .bool false, .slice none 0 0] 48).below hb1 (by simp))
  have HB1 := Lib.hid (HAL.out.trans (hb1.mono HAL.out.size))
  have hlt : w.heap.size < w1.heap.size := by have := hb1.size; simp at this; omega
  clear hb1
  have z0 := HX.out.cell 0 rfl
  have z1 := HX.out.cell 1 rfl
  have z2 := HX.out.cell 2 rfl
  have z3 := HX.out.cell 3 rfl
  have zf := fun j => HX.out.free j
  go_wp2
  have hF := set4_facts HX.out HB1.out (.int .u64 0) (.int .u32 0) (.bool false) (.slice none 0 0) (.cells #[.int .u64 (pzero.key : Int), .int .i64 pzero.off, .int .i64 pzero.len, .int .u32 (pzero.cookie : Int), .bool pzero.gone] 83)
  unfold set4 at hF
  obtain ⟨y0, y1, y2, y3, yb⟩ := hF
  exact bodyPost_ret (v := .tuple #[Nd.nzero, ercode q]) (by simp [results, Tryz.results22, go_sem, y0, y1, y2, y3]) rfl ⟨rfl, yb⟩

set_option maxRecDepth 100000 in
set_option maxHeartbeats 1000000 in
theorem get_o (n : Ndl) (off : Nat) (b : List UInt8) (key c g p k : Nat) (S : Nat → Prop) (d : Dsk) (s : Vst) (w : World) (h : Vready w g p S d k s) (hn : s.look key c = 0) (hf : fnd s.idx key = some (posN n off)) (hv : view d (nmD s.num s.gen) = some b) (hb : off + nlen n ≤ b.length) (hl : b.length ≤ 16777216) (hd : (b.drop off).take (nlen n) = nbytes n) (hnf : n.fits) (hnc : ncheck n = 0) :
    Calls Tryz.prog 22 #[.pointer (some ⟨g, 0, none⟩), .int .u64 (key : Int), .int .u32 (c : Int)] w fun e w' =>
      ∃ x cc, e = .returned (.tuple #[Nd.nval n (.slice x n.data.length cc), .nilIface]) ∧ w'.ownsRow w.heap.size 5 1 (.slice x n.data.length cc) n.data.length (bvs n.data) ∧ Below w.heap.size w w' := by
  have hal := below_alloc w (.cells #[.int .u64 0, .int .u32 0, .bool false, .slice none 0 0] 48)
  have HAL := Lib.hid hal
  have h0 := h.below hal
  have HH := Lib.hid h
  obtain ⟨x, xv, hbox, hix⟩ := h0.box
  have HB := Lib.hid (blob_ok g p x xv s key c _ _ h.ok hbox hix hf (by rw [← hf, blobN_look]; exact hn))
  have HRW := Lib.hid (fun w1 (hb1 : Below w.heap.size w w1) => raw_v n off b g p k S d s w1 (h.below hb1) hv hb hl (ncheck_ok hnc).1)
  rw [hd] at HRW
  have HGN := Lib.hid (fun v w1 hv => got_n n v w1 hv hnf hnc)
  have HNE := Lib.hid (nlen_eq n)
  obtain ⟨P, hP⟩ : ∃ P, posN n off = P := ⟨_, rfl⟩
  have HPO := Lib.hid hP
  have he := fun W => Tryz.eqlPosV P P W
  simp only [ne_eq, not_true_eq_false, decide_false] at he
  have hgd := Tryz.guardPosV
  rw [hP] at HB HRW
  have hpo : P.off = (off : Int) := by rw [← hP]; rfl
  have HPV := Lib.hid (fun v w1 hv => position_v n v off w1 hv)
  rw [hP] at HPV
  obtain ⟨pk, po, pl, pc, pg⟩ := P
  simp only at hpo
  subst hpo
  obtain ⟨L, hL⟩ : ∃ L, n.data.length = L := ⟨_, rfl⟩
  have HL := Lib.hid hL
  rw [hL] at HGN ⊢
  clear h h0 hbox hix hn hf hv hb hl hd hnf hnc hal hP hL
  go_enter Tryz.func22, Tryz.ntmps22
  go_wp2_with fail
  refine HB.out.mono ?_
  rintro e w1 ⟨rfl, hb1⟩
  have HX1 := Lib.hid ((Blk.new w #[.int .u64 0, .int .u32 0, .bool false, .slice none 0 0] 48).below hb1 (by simp))
  have HB1 := Lib.hid (HAL.out.trans (hb1.mono HAL.out.size))
  have hlt1 : w.heap.size < w1.heap.size := by have := hb1.size; simp at this; omega
  clear hb1
  have HB2 := Lib.hid (HB1.out.alloc HB1.out.size (.cells #[.int .u64 (pk : Int), .int .i64 (off : Int), .int .i64 pl, .int .u32 (pc : Int), .bool pg] 83))
  have HX2 := Lib.hid (HX1.out.alloc (.cells #[.int .u64 (pk : Int), .int .i64 (off : Int), .int .i64 pl, .int .u32 (pc : Int), .bool pg] 83))
  have HY2 := Lib.hid (Blk.new w1 #[.int .u64 (pk : Int), .int .i64 (off : Int), .int .i64 pl, .int .u32 (pc : Int), .bool pg] 83)
  go_wp2_with fail
  refine (HRW.out _ HB2.out).mono ?_
  rintro e w3 ⟨vb, rfl, hown3, hb3⟩
  have HX3 := Lib.hid (HX2.out.below hb3 (by simp; omega))
  have HY3 := Lib.hid (HY2.out.below hb3 (by simp))
  have HB3 := Lib.hid (HB2.out.trans (hb3.mono HB2.out.size))
  have hlt3 : w1.heap.size < w3.heap.size := by have := hb3.size; simp at this; omega
  have HO3 := Lib.hid (IsB.own hown3 HNE.out.symm)
  clear hown3 hb3 HX2 HY2 HX1
  go_wp2_with fail
  refine (HGN.out vb _ HO3.out).mono ?_
  rintro e w4 ⟨xx, cc, rfl, hown4, hb4⟩
  have HX4 := Lib.hid (HX3.out.below hb4 (by omega))
  have HY4 := Lib.hid (HY3.out.below hb4 (by omega))
  have HB4 := Lib.hid (HB3.out.trans (hb4.mono (by omega)))
  have hlt4 : w3.heap.size ≤ w4.heap.size := hb4.size
  have HO4 := Lib.hid hown4
  clear hown4 hb4 HX3 HY3
  obtain ⟨w5, hw5⟩ : ∃ w5, w4.alloc (.cells #[.int .u64 (n.key : Int), .int .u32 (n.cookie : Int), .bool n.gone, .slice xx L cc] 48) = w5 := ⟨_, rfl⟩
  have hN5 := Blk.new w4 #[.int .u64 (n.key : Int), .int .u32 (n.cookie : Int), .bool n.gone, .slice xx L cc] 48
  have hX5 := HX4.out.alloc (.cells #[.int .u64 (n.key : Int), .int .u32 (n.cookie : Int), .bool n.gone, .slice xx L cc] 48)
  have hY5 := HY4.out.alloc (.cells #[.int .u64 (n.key : Int), .int .u32 (n.cookie : Int), .bool n.gone, .slice xx L cc] 48)
  have hB5 := HB4.out.alloc HB4.out.size (.cells #[.int .u64 (n.key : Int), .int .u32 (n.cookie : Int), .bool n.gone, .slice xx L cc] 48)
  have hO5 := ownsRow_below HO4.out (below_alloc w4 (.cells #[.int .u64 (n.key : Int), .int .u32 (n.cookie : Int), .bool n.gone, .slice xx L cc] 48)) (Nat.le_refl _)
  rw [hw5] at hN5 hX5 hY5 hB5 hO5
  have HN5 := Lib.hid hN5
  have HX5 := Lib.hid hX5
  have HB5 := Lib.hid hB5
  have HO5 := Lib.hid hO5
  have HI5 := Lib.hid (show IsB w5.drew (.slice xx L cc) n.data from IsB.own (ownsRow_below hO5 ((Below.refl _ w5).drew) (Nat.le_refl _)) HL.out.symm)
  have hl5 : w4.heap.size < w5.heap.size := hN5.lt
  have hlA : w1.heap.size < w5.heap.size := hY5.lt
  have hlB : w.heap.size < w5.heap.size := hX5.lt
  have K0 : w5.drew.cell? ⟨w4.heap.size, 0, none⟩ = some (.int .u64 (n.key : Int)) ∧ w5.drew.cell? ⟨w4.heap.size, 1, none⟩ = some (.int .u32 (n.cookie : Int)) ∧ w5.drew.cell? ⟨w4.heap.size, 2, none⟩ = some (.bool n.gone) ∧ w5.drew.cell? ⟨w4.heap.size, 3, none⟩ = some (.slice xx L cc) ∧ w5.drew.cell? ⟨w1.heap.size, 0, none⟩ = some (.int .u64 (pk : Int)) ∧ w5.drew.cell? ⟨w1.heap.size, 1, none⟩ = some (.int .i64 (off : Int)) ∧ w5.drew.cell? ⟨w1.heap.size, 2, none⟩ = some (.int .i64 pl) ∧ w5.drew.cell? ⟨w1.heap.size, 3, none⟩ = some (.int .u32 (pc : Int)) ∧ w5.drew.cell? ⟨w1.heap.size, 4, none⟩ = some (.bool pg) :=
    ⟨hN5.cell 0 rfl, hN5.cell 1 rfl, hN5.cell 2 rfl, hN5.cell 3 rfl, hY5.cell 0 rfl, hY5.cell 1 rfl, hY5.cell 2 rfl, hY5.cell 3 rfl, hY5.cell 4 rfl⟩
  go_upto_region 8 with fail
  clear hN5 hX5 hY5 hB5 hO5 hw5
  go_region_held3 (fun wx => wx.cell? ⟨w4.heap.size, 0, none⟩ = some (.int .u64 (n.key : Int)) ∧ wx.cell? ⟨w4.heap.size, 1, none⟩ = some (.int .u32 (n.cookie : Int)) ∧ wx.cell? ⟨w4.heap.size, 2, none⟩ = some (.bool n.gone) ∧ wx.cell? ⟨w4.heap.size, 3, none⟩ = some (.slice xx L cc) ∧ wx.cell? ⟨w1.heap.size, 0, none⟩ = some (.int .u64 (pk : Int)) ∧ wx.cell? ⟨w1.heap.size, 1, none⟩ = some (.int .i64 (off : Int)) ∧ wx.cell? ⟨w1.heap.size, 2, none⟩ = some (.int .i64 pl) ∧ wx.cell? ⟨w1.heap.size, 3, none⟩ = some (.int .u32 (pc : Int)) ∧ wx.cell? ⟨w1.heap.size, 4, none⟩ = some (.bool pg)) (first | exact K0 | exact Ka) (first | (go_at_call 45; refine (HPV.out (.slice xx L cc) w5.drew HI5.out).mono ?_; rintro e w6 ⟨rfl, hb6⟩; have Ka := gk_below hb6 hl5 hlA K0))
  have HX6 := Lib.hid ((HX5.out.below ((Below.refl _ w5).drew) hlB).below hb6 hlB)
  have HB6 := Lib.hid ((HB5.out.trans ((Below.refl _ w5).drew.mono (Nat.le_of_lt hlB))).trans (hb6.mono (Nat.le_of_lt hlB)))
  have HO6 := Lib.hid (ownsRow_below (ownsRow_below HO5.out ((Below.refl _ w5).drew) (Nat.le_refl _)) hb6 (Nat.le_refl _))
  obtain ⟨b0, b1, b2, b3, _⟩ := Ka
  have z0 := HX6.out.cell 0 rfl
  have z1 := HX6.out.cell 1 rfl
  have z2 := HX6.out.cell 2 rfl
  have z3 := HX6.out.cell 3 rfl
  have zf := fun j => HX6.out.free j
  have hF := set4_done HX6.out HB6.out (.int .u64 (n.key : Int)) (.int .u32 (n.cookie : Int)) (.bool n.gone) (.slice xx L cc)
  unfold set4 at hF
  have HF := Lib.hid hF
  have HO7 := Lib.hid (Nd.got_fin (w := w) (u0 := .int .u64 (n.key : Int)) (u1 := .int .u32 (n.cookie : Int)) (u2 := .bool n.gone) (u3 := .slice xx L cc) (ownsRow_base HO6.out (base' := w.heap.size + 1) (by omega)))
  clear hF hb6 K0
  go_wp2
  obtain ⟨y0, y1, y2, y3, yb⟩ := HF.out
  exact bodyPost_ret (v := .tuple #[.agg #[.int .u64 (n.key : Int), .int .u32 (n.cookie : Int), .bool n.gone, .slice xx L cc], .nilIface]) (by simp [results, Tryz.results22, go_sem, y0, y1, y2, y3]) rfl ⟨xx, cc, rfl, HO7.out, yb⟩
theorem get_v (key c g p k : Nat) (S : Nat → Prop) (d : Dsk) (s : Vst) (w : World) (h : Vready w g p S d k s) :
    Calls Tryz.prog 22 #[.pointer (some ⟨g, 0, none⟩), .int .u64 (key : Int), .int .u32 (c : Int)] w fun e w' =>
      ∃ m x cc, e = .returned (.tuple #[Nd.nval m (.slice x m.data.length cc), cerr (s.look key c)]) ∧ w'.ownsRow w.heap.size 5 1 (.slice x m.data.length cc) m.data.length (bvs m.data) ∧ Below w.heap.size w w' ∧ m = (if s.look key c = 0 then (newest s.ns key).getD ⟨0, 0, false, []⟩ else ⟨0, 0, false, []⟩) := by
  by_cases hn : s.look key c = 0
  · obtain ⟨n, a, b, h1, h2, h3, h4, h5, h6⟩ := look_some hn
    obtain ⟨X, hX, hv⟩ := h.lies.data
    have hbl : (X ++ nsB s.ns).length = s.size := by rw [List.length_append, hX, length_nsB]; rfl
    have hsz : 16 + tot a + nlen n ≤ s.size := by
      unfold Vst.size
      rw [h5, tot_append]
      simp only [tot]
      omega
    have hal := h.ok.all n (by rw [h5]; simp)
    refine (get_o n (16 + tot a) (X ++ nsB s.ns) key c g p k S d s w h hn h6 hv (by rw [hbl]; exact hsz) (by rw [hbl]; exact Nat.le_trans h.ok.size h.ok.most) (by rw [h5]; exact bytes_at hX) hal.1 hal.2).mono ?_
    rintro e w' ⟨x, cc, rfl, ho, hb⟩
    exact ⟨n, x, cc, by rw [hn, cerr_0], ho, hb, by rw [if_pos hn, h1]; rfl⟩
  · refine (get_b key c g p k S d s w h hn).mono ?_
    rintro e w' ⟨rfl, hb⟩
    exact ⟨⟨0, 0, false, []⟩, none, 0, by rw [cerr_pos hn]; rfl, World.ownsRow_nil _ _ _ _, hb, by rw [if_neg hn]⟩

end Go.Proofs.YtoblbipkkdiddaaGreatDoor
end

section
namespace Go.Proofs.YtoblbipkkdiddaaGreatDoor
open Go.RowKit Go.Cor

theorem Dt.pre {w wa w' : World} {p k' : Nat} {S : Nat → Prop} {d' : Dsk} (hb : Below w.heap.size w wa) (h : Dt wa w' p S d' k') : Dt w w' p S d' k' := by
  obtain ⟨S', h1, h2, h3⟩ := h
  exact ⟨S', h1, (Kept.of_below (S := fun _ => False) hb (Nat.le_refl _)).mono (fun _ _ h => h.elim) |>.trans h2 (fun j hj _ => hj), fun b hb2 => (h3 b hb2).imp id (fun h => Nat.le_trans hb.size h)⟩
theorem Dt.post {w w1 w' : World} {p k' : Nat} {S : Nat → Prop} {d' : Dsk} (h : Dt w w1 p S d' k') (hb : Below w1.heap.size w1 w') : Dt w w' p S d' k' := by
  obtain ⟨S', h1, h2, h3⟩ := h
  exact ⟨S', h1.below hb (Nat.le_refl _), h2.trans (Kept.of_below (S := fun _ => False) hb (Nat.le_refl _)) (fun _ h => h.elim), h3⟩
theorem Dt.self {w w' : World} {p k k' : Nat} {S : Nat → Prop} {d : Dsk} (h : Dk w p S d k) (hb : Below w.heap.size w w') (hk : k ≤ k') (hs : k' ≤ 90000) : Dt w w' p S d k' :=
  ⟨S, ⟨(h.below hb (Nat.le_refl _)).is, Ok.more h.ok hk, hs, (h.below hb (Nat.le_refl _)).lt⟩, Kept.of_below hb (Nat.le_refl _), fun _ h => .inl h⟩
theorem Dt.join {S S1 : Nat → Prop} {wa wb w' : World} {p k' : Nat} {d' : Dsk} (hK : Kept S wa wb) (hS : ∀ b, S1 b → S b ∨ wa.heap.size ≤ b) (h : Dt wb w' p S1 d' k') : Dt wa w' p S d' k' := by
  obtain ⟨S2, b1, b2, b3⟩ := h
  refine ⟨S2, b1, hK.trans b2 (fun j hj hlt => ?_), fun b hb => ?_⟩
  · rcases hS j hj with h | h
    · exact h
    · omega
  · rcases b3 b hb with h | h
    · exact hS b h
    · exact .inr (Nat.le_trans hK.size h)
theorem Dt.isB {S : Nat → Prop} {w w' : World} {p k' : Nat} {d' : Dsk} (h : Dt w w' p S d' k') {v : Value} {l : List UInt8} (hv : IsB w v l) (hS : ∀ b, liesB v l b → ¬ S b) : IsB w' v l := by
  obtain ⟨S', _, h2, _⟩ := h
  exact hv.kept h2 hS

set_option maxRecDepth 100000 in
set_option maxHeartbeats 1000000 in
theorem create_d (w : World) (p k : Nat) (S : Nat → Prop) (d : Dsk) (n : ByteArray) (v : Value) (l : List UInt8) (h : Dk w p S d k) (hk : k + 6 ≤ 90000) (hf : Fs d k) (hn : isNm n = true) (hv : view d n = none) (hc : d.now.length < 64)
    (hb : IsB w v l) (hbS : ∀ b, liesB v l b → ¬ S b) (hl : l.length ≤ 16777216) (hu : d.used + l.length ≤ d.cap) :
    Calls Tryz.prog 56 #[.pointer (some ⟨p, 0, none⟩), .string n, v] w fun e w' =>
      e = .returned .nilIface ∧ ∃ d', Dt w w' p S d' (k + 6) ∧ Went d d' (k + 6) (d.used + l.length) (d.now.length + 1) (fun m => if m = n then some l else view d m) := by
  have h1 := hf.create hn hv hc
  have h2 := h1.2.fs.append (n := n) (b := []) (l := l) (by rw [h1.2.view, if_pos rfl]) (by simpa using hl) (by rw [h1.2.used, h1.2.cap]; exact hu)
  have h3 := h2.2.fs.sync (n := n) (b := [] ++ l) (by rw [h2.2.view, if_pos rfl])
  have hns : n.size ≤ 32 := by
    unfold isNm at hn
    simp only [Bool.and_eq_true, decide_eq_true_eq] at hn
    exact hn.1.2
  have HW := Lib.hid (((h1.2.trans h2.2).trans h3.2).of (v' := fun m => if m = n then some l else view d m) (show _ = d.used + l.length by rw [h2.2.used, h1.2.used]) (show _ = d.now.length + 1 by rw [h2.2.len, h1.2.len]) (fun m => by
    rw [h2.2.view]
    by_cases e : m = n
    · rw [if_pos e, if_pos e]; rfl
    · rw [if_neg e, if_neg e, h1.2.view, if_neg e]))
  have H1 := Lib.hid h1.1
  have H2 := Lib.hid h2.1
  have H3 := Lib.hid h3.1
  have HH := Lib.hid h
  have HB := Lib.hid hb
  have HBS := Lib.hid hbS
  have HSL := Lib.hid h.lt
  clear h hf hn hv hc hb hbS hu h1 h2 h3
  go_enter Tryz.func56, Tryz.ntmps56
  go_wp2_with fail
  refine (create_u w p S d k n HH.out (by omega) (by omega)).mono ?_
  rintro e w1 ⟨rfl, ht1⟩
  rw [H1.out, cerr_0]
  have HI1 := Lib.hid (ht1.isB HB.out HBS.out)
  obtain ⟨S1, hd1, hk1, hs1⟩ := ht1
  have HD1 := Lib.hid hd1
  have HK1 := Lib.hid hk1
  have HS1 := Lib.hid hs1
  clear hd1 hk1 hs1
  go_wp2_with fail
  refine (append_u w1 p S1 _ (k + 2) n v l HD1.out (by omega) HI1.out hl).mono ?_
  rintro e w2 ⟨rfl, ht2⟩
  rw [H2.out, cerr_0]
  obtain ⟨S2, hd2, hk2, hs2⟩ := Dt.join HK1.out HS1.out ht2
  have HD2 := Lib.hid hd2
  have HK2 := Lib.hid hk2
  have HS2 := Lib.hid hs2
  clear hd2 hk2 hs2 ht2
  go_wp2_with fail
  refine (sync_u w2 p S2 _ (k + 2 + 2) n HD2.out (by omega)).mono ?_
  rintro e w3 ⟨rfl, ht3⟩
  rw [H3.out, cerr_0]
  have HT := Lib.hid (Dt.join HK2.out HS2.out ht3)
  clear ht3
  go_wp2
  go_ret
  exact ⟨rfl, _, HT.out, HW.out⟩

theorem toList_eq (a b : ByteArray) : (a.toList == b.toList) = decide (a = b) := by
  rw [Bool.eq_iff_iff, beq_iff_eq, decide_eq_true_eq]
  constructor
  · intro h
    rw [ByteArray.toList_eq, ByteArray.toList_eq] at h
    exact ByteArray.ext (Array.toList_inj.1 h)
  · rintro rfl; rfl
def strs (l : List ByteArray) : List Value := l.map Value.string
theorem strs_get {l : List ByteArray} {i : Nat} (h : i < l.length) : (strs l)[i]? = some (.string (l.getD i ⟨#[]⟩)) := by
  simp [strs, List.getElem?_eq_getElem h, List.getD_eq_getElem?_getD]

def hasB (l : List ByteArray) (x : ByteArray) : Bool := l.any fun y => decide (y = x)
theorem hasB_iff {l : List ByteArray} {x : ByteArray} : hasB l x = true ↔ x ∈ l := by
  unfold hasB
  rw [List.any_eq_true]
  constructor
  · rintro ⟨y, h1, h2⟩
    rw [← of_decide_eq_true h2]; exact h1
  · exact fun h => ⟨x, h, decide_eq_true rfl⟩
theorem hasB_no {l : List ByteArray} {x : ByteArray} (h : ¬ x ∈ l) : hasB l x = false := by
  cases e : hasB l x with
  | true => exact absurd (hasB_iff.1 e) h
  | false => rfl
set_option maxHeartbeats 1000000 in
theorem index_s (v : Value) (l : List ByteArray) (x : ByteArray) (w : World) (hv : IsX w 1 v l.length (strs l)) (hl : l.length ≤ 1048576) :
    Calls Tryz.prog 111 #[v, .string x] w fun e w' => (∃ r : Int, e = .returned (.int .i64 r) ∧ decide (0 ≤ r) = hasB l x) ∧ w' = w := by
  have HV := Lib.hid hv
  obtain ⟨N, hN⟩ : ∃ N, l.length = N := ⟨_, rfl⟩
  have hlen := fun W => len_X (P := Tryz.prog) hv 170 3 _ Tryz.underlying170 W
  rw [hN] at hlen hl
  have HN := Lib.hid hN
  clear hv hN
  go_enter Tryz.func111, Tryz.ntmps111
  go_wp2_with fail
  go_loopw [8] (fun c wr => ∃ i : Nat, i ≤ N ∧ c = .int .i64 i ∧ wr = w ∧ Hid (∀ j, j < i → l.getD j ⟨#[]⟩ ≠ x)) (fun c _ => N - (intOf c).toNat)
  case atStart => exact ⟨0, Nat.zero_le _, rfl, rfl, Lib.hid (fun j hj => absurd hj (Nat.not_lt_zero j))⟩
  case round =>
    obtain ⟨i, hiN, rfl, rfl, HJ⟩ := hrel
    by_cases hlt : i < N
    · obtain ⟨b, o, hidx, _, hcell⟩ := indexAt_X HV.out 170 9 Tryz.underlying170 Tryz.sizeStr i (by rw [HN.out]; exact hlt)
      have hc : wr.cell? ⟨b, o, none⟩ = some (.string (l.getD i ⟨#[]⟩)) := by
        have h0 := hcell 0 (by omega)
        rw [Nat.mul_one, Nat.add_zero, Nat.add_zero, strs_get (by rw [HN.out]; exact hlt)] at h0
        exact h0
      obtain ⟨y, hy⟩ : ∃ y, l.getD i ⟨#[]⟩ = y := ⟨_, rfl⟩
      have HY := Lib.hid hy
      rw [hy] at hc
      clear hcell hy
      by_cases hxy : x = y
      · have he : (x.toList == y.toList) = true := by rw [toList_eq]; exact decide_eq_true hxy
        have hm : x ∈ l := by
          rw [hxy, ← HY.out]
          have h1 : i < l.length := by rw [HN.out]; exact hlt
          rw [List.getD_eq_getElem?_getD, List.getElem?_eq_getElem h1]
          exact List.getElem_mem h1
        go_wp2
        go_ret
        exact ⟨⟨_, rfl, by rw [hasB_iff.2 hm]; exact decide_eq_true (by omega)⟩, rfl⟩
      · have he : (x.toList == y.toList) = false := by rw [toList_eq]; exact decide_eq_false hxy
        go_wp2
        go_roundw
        case rel => exact ⟨i + 1, by omega, by go_num, by trivial, Lib.hid (fun j hj => by
          by_cases e : j = i
          · rw [e, HY.out]; exact fun h => hxy h.symm
          · exact HJ.out j (by omega))⟩
        case measure => simp [intOf]; omega
    · obtain rfl : i = N := by omega
      have hm : ¬ x ∈ l := fun h => by
        obtain ⟨j, hj⟩ := List.getElem?_of_mem h
        have h1 := (List.getElem?_eq_some_iff.1 hj).1
        exact HJ.out j (by rw [← HN.out]; exact h1) (by rw [List.getD_eq_getElem?_getD, hj]; rfl)
      go_wp2
      go_ret
      exact ⟨⟨-1, rfl, by rw [hasB_no hm]; rfl⟩, rfl⟩
theorem contains_s (v : Value) (l : List ByteArray) (x : ByteArray) (w : World) (hv : IsX w 1 v l.length (strs l)) (hl : l.length ≤ 1048576) :
    Calls Tryz.prog 87 #[v, .string x] w fun e w' => e = .returned (.bool (hasB l x)) ∧ w' = w := by
  have HI := Lib.hid (index_s v l x w hv hl)
  clear hv hl
  go_enter Tryz.func87, Tryz.ntmps87
  go_wp2_with fail
  refine HI.out.mono ?_
  rintro e w1 ⟨⟨r, rfl, hr⟩, rfl⟩
  go_wp2
  go_ret
  exact ⟨rfl, rfl⟩
theorem nms_strs (t : Tbl) : nms t = strs (t.map (·.1)) := by simp [nms, strs]
theorem mem_names {d : Dsk} {n : ByteArray} : hasB (d.now.map (·.1)) n = (view d n).isSome := by
  unfold view
  rw [Option.isSome_map]
  cases hf : tfind d.now n with
  | none =>
    rw [Option.isSome_none]
    refine hasB_no fun h => ?_
    obtain ⟨e, he, hen⟩ := List.mem_map.1 h
    exact tfind_none.1 hf e he hen
  | some j => exact hasB_iff.2 (List.mem_map.2 ⟨_, tfind_mem hf, rfl⟩)
theorem named_d (w : World) (p k : Nat) (S : Nat → Prop) (d : Dsk) (n : ByteArray) (h : Dk w p S d k) :
    Calls Tryz.prog 54 #[.pointer (some ⟨p, 0, none⟩), .string n] w fun e w' => e = .returned (.bool (view d n).isSome) ∧ Below w.heap.size w w' := by
  have hl : d.now.length ≤ 1048576 := by have := h.ok.nowN; have := h.ok.lenN; have := h.small; omega
  have HH := Lib.hid h
  clear h
  go_enter Tryz.func54, Tryz.ntmps54
  go_wp2_with fail
  refine (names_u w p S d k HH.out).mono ?_
  rintro e w1 ⟨v', rfl, hown, hb⟩
  have HX := Lib.hid (show IsX w1 1 v' (d.now.map (·.1)).length (strs (d.now.map (·.1))) by rw [← nms_strs, List.length_map]; exact IsX.own hown)
  have HB := Lib.hid hb
  clear hown hb
  go_wp2_with fail
  refine (contains_s v' (d.now.map (·.1)) n w1 HX.out (by rw [List.length_map]; exact hl)).mono ?_
  rintro e w2 ⟨rfl, rfl⟩
  rw [mem_names]
  go_wp2
  go_ret
  exact ⟨rfl, HB.out⟩
theorem unname_d (w : World) (p k : Nat) (S : Nat → Prop) (d : Dsk) (n : ByteArray) (h : Dk w p S d k) (hv : view d n = none) :
    Calls Tryz.prog 93 #[.pointer (some ⟨p, 0, none⟩), .string n] w fun e w' => e = .returned .nilIface ∧ Below w.heap.size w w' := by
  have HN := Lib.hid (named_d w p k S d n h)
  rw [hv, Option.isSome_none] at HN
  clear h hv
  go_enter Tryz.func93, Tryz.ntmps93
  go_wp2_with fail
  refine HN.out.mono ?_
  rintro e w1 ⟨rfl, hb⟩
  have HB := Lib.hid hb
  clear hb
  go_wp2
  go_ret
  exact ⟨rfl, HB.out⟩

/-- A manifest laid. -/
theorem lay_went {d : Dsk} {k : Nat} {nM nS : ByteArray} {X : List UInt8} (hf : Fs d k) (hS : isNm nS = true) (hM : isNm nM = true) (hne : nS ≠ nM) (hv : view d nS = none) (hc : d.now.length < 64) (hX : X.length = 24) (hu : d.used + 24 ≤ d.cap) (d1 : Dsk) (h1 : Went d d1 (k + 6) (d.used + X.length) (d.now.length + 1) (fun m => if m = nS then some X else view d m)) :
    (d1.rename nS nM).2 = 0 ∧ (d1.rename nS nM).1.syncNames.2 = 0 ∧ Went d (d1.rename nS nM).1.syncNames.1 (k + 10) (d.used + 24 - olen (view d nM)) (d.now.length + 1 - if (view d nM).isSome then 1 else 0) (fun m => if m = nM then some X else view d m) := by
  have hr := h1.fs.rename (n := nS) (t := nM) (b := X) (by rw [h1.view, if_pos rfl]) hM hne
  have hs := hr.2.fs.syncNames
  have hvM : view d1 nM = view d nM := by rw [h1.view, if_neg (fun e => hne e.symm)]
  refine ⟨hr.1, hs.1, ((h1.trans hr.2).trans hs.2).of ?_ ?_ (fun m => ?_)⟩
  · rw [hr.2.used, h1.used, hX, hvM]
  · rw [hr.2.len, h1.len, hvM]
  · rw [hr.2.view]
    by_cases e : m = nM
    · rw [if_pos e, if_pos e]
    · rw [if_neg e, if_neg e]
      by_cases e2 : m = nS
      · rw [if_pos e2, e2, hv]
      · rw [if_neg e2, h1.view, if_neg e2]

set_option maxRecDepth 100000 in
set_option maxHeartbeats 1000000 in
theorem lay_d (w : World) (p k : Nat) (S : Nat → Prop) (d : Dsk) (num gen ep : Nat) (sh : Bool) (h : Dk w p S d k) (hk : k + 10 ≤ 90000) (hf : Fs d k) (n1 : 1 ≤ num) (n9 : num < 10) (g1 : 1 ≤ gen) (g9 : gen < 10) (he : ep ≤ 2147483647) (hv : view d (nmS num) = none) (hc : d.now.length < 64) (hu : d.used + 24 ≤ d.cap) :
    Calls Tryz.prog 57 #[.pointer (some ⟨p, 0, none⟩), .agg #[.int .i64 (num : Int), .int .i64 (gen : Int), .int .i64 (ep : Int), .bool sh]] w fun e w' =>
      e = .returned .nilIface ∧ ∃ d' X, X.length = 24 ∧ Dt w w' p S d' (k + 10) ∧ Went d d' (k + 10) (d.used + 24 - olen (view d (nmM num))) (d.now.length + 1 - if (view d (nmM num)).isSome then 1 else 0) (fun m => if m = nmM num then some X else view d m) := by
  have HH := Lib.hid h
  have HF := Lib.hid hf
  have HV := Lib.hid hv
  have HC := Lib.hid hc
  have HU := Lib.hid hu
  obtain ⟨LN, hLN⟩ : ∃ z, (d.now.length + 1 - if (view d (nmM num)).isSome then 1 else 0) = z := ⟨_, rfl⟩
  rw [hLN]
  have HLN := Lib.hid hLN
  clear h hf hv hc hu hLN
  go_enter Tryz.func57, Tryz.ntmps57
  go_wp2_with fail
  refine (putManifest_ok num gen ep sh _ n1 n9 g1 g9 he).mono ?_
  rintro e w1 ⟨q, cap, rfl, ⟨X, hX, hown⟩, hb1⟩
  have HZ := Lib.hid ((Blk.new w #[.int .i64 (num : Int), .int .i64 (gen : Int), .int .i64 (ep : Int), .bool sh] 104).below hb1 (by simp))
  have HB1 := Lib.hid ((below_alloc w (.cells #[.int .i64 (num : Int), .int .i64 (gen : Int), .int .i64 (ep : Int), .bool sh] 104)).trans (hb1.mono (by simp)))
  have HI1 := Lib.hid (IsB.own hown hX.symm)
  have hfresh : ∀ b, liesB (.slice (some ⟨q, 0, none⟩) 24 cap) X b → w.heap.size ≤ b := fun b hb => by
    have h1 := (hown.lt b hb.2).1
    simp at h1
    omega
  have HFR := Lib.hid hfresh
  have HD1 := Lib.hid (HH.out.below HB1.out (Nat.le_refl _))
  have c0 := HZ.out.cell 0 rfl
  have c1 := HZ.out.cell 1 rfl
  clear hb1 hown hfresh
  go_wp2_with fail
  refine (names_h num gen _ n9 g9).mono ?_
  rintro e w2 ⟨rfl, rfl⟩
  go_wp2_with fail
  refine (unname_d w1 p k S d (nmS num) HD1.out HV.out).mono ?_
  rintro e w3 ⟨rfl, hb3⟩
  have HB3 := Lib.hid (HB1.out.trans (hb3.mono HB1.out.size))
  have HD3 := Lib.hid (HH.out.below HB3.out (Nat.le_refl _))
  have HI3 := Lib.hid (HI1.out.mono hb3 (Nat.le_refl _))
  clear hb3 c0 c1
  go_wp2_with fail
  refine (create_d w3 p k S d (nmS num) _ X HD3.out (by omega) HF.out (isNm_S n9) HV.out HC.out HI3.out (fun b hb hs => by have h1 := HFR.out b hb; have h2 := HH.out.lt b hs; omega) (by omega) (by rw [hX]; exact HU.out)).mono ?_
  rintro e w4 ⟨rfl, d1, ht4, hw4⟩
  have HL := Lib.hid (lay_went HF.out (isNm_S n9) (isNm_M n9) (nmM_nmS _ _) HV.out HC.out hX HU.out d1 hw4)
  obtain ⟨S4, hd4, hk4, hs4⟩ := ht4
  have HD4 := Lib.hid hd4
  have HK4 := Lib.hid hk4
  have HS4 := Lib.hid hs4
  clear hd4 hk4 hs4 hw4
  go_wp2_with fail
  refine (rename_u w4 p S4 d1 (k + 6) (nmS num) (nmM num) HD4.out (by omega) (by simp [nmS, ByteArray.size]) (by simp [nmM, ByteArray.size])).mono ?_
  rintro e w5 ⟨rfl, ht5⟩
  rw [HL.out.1, cerr_0]
  obtain ⟨S5, hd5, hk5, hs5⟩ := Dt.join HK4.out HS4.out ht5
  have HD5 := Lib.hid hd5
  have HK5 := Lib.hid hk5
  have HS5 := Lib.hid hs5
  clear hd5 hk5 hs5 ht5
  go_wp2_with fail
  refine (syncNames_u w5 p S5 _ (k + 6 + 2) HD5.out (by omega)).mono ?_
  rintro e w6 ⟨rfl, ht6⟩
  rw [HL.out.2.1, cerr_0]
  have HT := Lib.hid (Dt.pre HB3.out (Dt.join HK5.out HS5.out ht6))
  clear ht6
  go_wp2
  go_ret
  exact ⟨rfl, _, X, hX, HT.out, by rw [← HLN.out]; exact HL.out.2.2⟩

end Go.Proofs.YtoblbipkkdiddaaGreatDoor
end
