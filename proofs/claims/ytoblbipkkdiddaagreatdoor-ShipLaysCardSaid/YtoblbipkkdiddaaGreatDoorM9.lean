/- Vols, Vsp, Vsq, Full, Ship. -/
import Derived.Test.YtoblbipkkdiddaaGreatDoorM8
import Derived.StillTailTactics
import Derived.Deep.RegionWith
import Derived.Test.YtoblbipkkdiddaaGreatDoorM4
set_option linter.unusedVariables false
set_option linter.unusedSimpArgs false

section
namespace Go.Proofs.YtoblbipkkdiddaaGreatDoor
open Go.RowKit Go.Cor

def Vst.with (s : Vst) (e : Nat) (b : Bool) : Vst := { s with epoch := e, shut := b }
theorem set_ok {s : Vst} {e : Nat} {b : Bool} (h1 : e ≤ 2147483647) (h2 : s.epoch ≤ e) : s.set (e : Int) b = (Vst.with s e b, 0) := by
  unfold Vst.set
  rw [if_neg (by omega), if_neg (by omega)]
  rfl
/-- A manifest's numbers laid in its box. -/
theorem Vt.of_set {w : World} {g p k : Nat} {S : Nat → Prop} {d : Dsk} {s : Vst} (h : Vl w g p S d k s) (e : Nat) (b : Bool) :
    Vt w ((((w.setCell ⟨g, 1, none⟩ (.int .i64 (s.num : Int))).setCell ⟨g, 2, none⟩ (.int .i64 (s.gen : Int))).setCell ⟨g, 3, none⟩ (.int .i64 (e : Int))).setCell ⟨g, 4, none⟩ (.bool b)) g p S d k (Vst.with s e b) := by
  obtain ⟨x, v, Sd, h, hS⟩ := h
  have hK : Kept (fun j => j = g) w ((((w.setCell ⟨g, 1, none⟩ (.int .i64 (s.num : Int))).setCell ⟨g, 2, none⟩ (.int .i64 (s.gen : Int))).setCell ⟨g, 3, none⟩ (.int .i64 (e : Int))).setCell ⟨g, 4, none⟩ (.bool b)) :=
    ((((Kept.refl (fun j => j = g) w).setCell (.inl rfl) _).setCell (.inl rfl) _).setCell (.inl rfl) _).setCell (.inl rfl) _
  have hb := (((h.box.set 1 (.int .i64 (s.num : Int))).set 2 (.int .i64 (s.gen : Int))).set 3 (.int .i64 (e : Int))).set 4 (.bool b)
  exact ⟨S, ⟨x, v, Sd, ⟨hb, h.ix.kept hK (fun j hj hg => h.gx (hg ▸ hj)), h.dk.kept hK (fun j hj hg => h.gd (hg ▸ hj)), h.gx, h.gd, h.xd⟩, hS⟩, hK.mono (fun j _ hj => (hS j).2 (.inl hj)), fun j hj => .inl hj⟩

theorem set_lies {d d' : Dsk} {k : Nat} {s : Vst} {X : List UInt8} (hl : Lies d k s) (hX : X.length = 24) (hw : Went d d' (k + 10) (d.used + 24 - olen (view d (nmM s.num))) (d.now.length + 1 - if (view d (nmM s.num)).isSome then 1 else 0) (fun m => if m = nmM s.num then some X else view d m)) (e : Nat) (b : Bool) :
    Lies d' (k + 10) (Vst.with s e b) ∧ d'.cap = d.cap ∧ d'.now.length = d.now.length ∧ d'.used = d.used ∧ ∀ m, m ≠ nmD s.num s.gen → m ≠ nmM s.num → m ≠ nmS s.num → view d' m = view d m := by
  obtain ⟨M, hM, hM24⟩ := hl.man
  obtain ⟨D, hD16, hD⟩ := hl.data
  have hge := used_ge hl.fs hM
  refine ⟨⟨hw.fs, ⟨D, hD16, ?_⟩, ⟨X, ?_, hX⟩, ?_⟩, hw.cap, ?_, ?_, fun m _ h2 _ => by rw [hw.view, if_neg h2]⟩
  · show view d' (nmD s.num s.gen) = _
    rw [hw.view, if_neg (fun e => nmD_nmM _ _ _ e.symm), hD]
    rfl
  · show view d' (nmM s.num) = _
    rw [hw.view, if_pos rfl]
  · show view d' (nmS s.num) = _
    rw [hw.view, if_neg (nmM_nmS _ _), hl.shad]
  · rw [hw.len, hM]
    simp
  · rw [hw.used, hM]
    simp only [olen, hM24]
    omega
set_option maxRecDepth 100000 in
set_option maxHeartbeats 1000000 in
theorem set_no (e : Int) (b : Bool) (g p k : Nat) (S : Nat → Prop) (d : Dsk) (s : Vst) (w : World) (h : Vready w g p S d k s) (he : e < 0 ∨ 2147483647 < e) :
    Calls Tryz.prog 66 #[.pointer (some ⟨g, 0, none⟩), .int .i64 e, .bool b] w fun r w' => r = .returned (ercode 1) ∧ w' = w := by
  have hd : decide (0 ≤ e ∧ e ≤ 2147483647) = false := decide_eq_false (by omega)
  clear h
  go_enter Tryz.func66, Tryz.ntmps66
  go_wp2_with fail
  refine (epochCan_any e _).mono ?_
  rintro r w1 ⟨rfl, rfl⟩
  rw [hd]
  go_wp2
  go_ret
  exact ⟨rfl, rfl⟩
set_option maxRecDepth 100000 in
set_option maxHeartbeats 1000000 in
theorem set_old (e : Nat) (b : Bool) (g p k : Nat) (S : Nat → Prop) (d : Dsk) (s : Vst) (w : World) (h : Vready w g p S d k s) (he : e ≤ 2147483647) (hs : e < s.epoch) :
    Calls Tryz.prog 66 #[.pointer (some ⟨g, 0, none⟩), .int .i64 (e : Int), .bool b] w fun r w' => r = .returned (ercode 13) ∧ w' = w := by
  have hd : decide (0 ≤ (e : Int) ∧ (e : Int) ≤ 2147483647) = true := decide_eq_true (by omega)
  obtain ⟨x, xv, hbox, hix⟩ := h.box
  obtain ⟨_, _, _, c3, _, _, _, _, _⟩ := vbox_facts hbox
  have h1 : (e : Int) < (s.epoch : Int) := by omega
  clear h hbox hix
  go_enter Tryz.func66, Tryz.ntmps66
  go_wp2_with fail
  refine (epochCan_any (e : Int) _).mono ?_
  rintro r w1 ⟨rfl, rfl⟩
  rw [hd]
  go_wp2
  go_ret
  exact ⟨rfl, rfl⟩
set_option maxRecDepth 100000 in
set_option maxHeartbeats 1000000 in
theorem set_o (e : Nat) (b : Bool) (g p k : Nat) (S : Nat → Prop) (d : Dsk) (s : Vst) (w : World) (h : Vready w g p S d k s) (he : e ≤ 2147483647) (hs : s.epoch ≤ e) (hu : d.used + 24 ≤ d.cap) :
    Calls Tryz.prog 66 #[.pointer (some ⟨g, 0, none⟩), .int .i64 (e : Int), .bool b] w fun r w' => r = .returned .nilIface ∧ VolT w w' g p S d s (k + 10) (Vst.with s e b) := by
  have hd : decide (0 ≤ (e : Int) ∧ (e : Int) ≤ 2147483647) = true := decide_eq_true (by omega)
  obtain ⟨x, xv, hbox, hix⟩ := h.box
  have hgl : g < w.heap.size := hbox.lt
  obtain ⟨c0, c1, c2, c3, c4, _, _, _, fz⟩ := vbox_facts hbox
  have h1 : ¬ (e : Int) < (s.epoch : Int) := by omega
  have HH := Lib.hid h
  have HU := Lib.hid hu
  clear h hbox hix hu
  go_enter Tryz.func66, Tryz.ntmps66
  go_wp2_with fail
  refine (epochCan_any (e : Int) _).mono ?_
  rintro r w1 ⟨rfl, rfl⟩
  rw [hd]
  go_wp2_with fail
  clear c1 c2 c3 c4 h1
  obtain ⟨w1, hw1⟩ : ∃ w1, w.alloc (.cells #[.int .i64 (s.num : Int), .int .i64 (s.gen : Int), .int .i64 (e : Int), .bool b] 104) = w1 := ⟨_, rfl⟩
  have hb1 := below_alloc w (.cells #[.int .i64 (s.num : Int), .int .i64 (s.gen : Int), .int .i64 (e : Int), .bool b] 104)
  have hz := Blk.new w #[.int .i64 (s.num : Int), .int .i64 (s.gen : Int), .int .i64 (e : Int), .bool b] 104
  rw [hw1] at hb1 hz
  rw [hw1]
  have HB1 := Lib.hid hb1
  have HZ := Lib.hid hz
  have hwl : w.heap.size < w1.heap.size := hz.lt
  have HV1 := Lib.hid (HH.out.vl.below hb1 (Nat.le_refl _)).drew
  have c0 := Vl.cells (HH.out.vl.below hb1 (Nat.le_refl _))
  have z0 := hz.cell 0 rfl
  have z1 := hz.cell 1 rfl
  have z2 := hz.cell 2 rfl
  have z3 := hz.cell 3 rfl
  clear hb1 hz hw1
  go_still_tail 5, (by kernel_rfl)
  change wpList _ _ _ _ _ w1.drew
  go_wp2_with fail
  obtain ⟨Sd, hd1, hsd, hdt⟩ := HV1.out.disk
  refine (lay_d w1.drew p k Sd d s.num s.gen e b hd1 (by have := HH.out.few; omega) HH.out.lies.fs HH.out.ok.num1 HH.out.ok.num9 HH.out.ok.gen1 HH.out.ok.gen9 he HH.out.lies.shad (by have := HH.out.names; omega) HU.out).mono ?_
  rintro r w2 ⟨rfl, d', X, hX, ht, hw⟩
  have HW := Lib.hid hw
  obtain ⟨S2, hv2, hk2, hs2⟩ := hdt _ _ _ ht
  have HV2 := Lib.hid hv2
  have HK2 := Lib.hid hk2
  have HS2 := Lib.hid hs2
  have hB0 : ¬ S w.heap.size := fun hb => by have := HH.out.vl.lt _ hb; omega
  have z0 := hk2.cell (show w1.drew.cell? ⟨w.heap.size, 0, none⟩ = _ from z0) hB0
  have z1 := hk2.cell (show w1.drew.cell? ⟨w.heap.size, 1, none⟩ = _ from z1) hB0
  have z2 := hk2.cell (show w1.drew.cell? ⟨w.heap.size, 2, none⟩ = _ from z2) hB0
  have z3 := hk2.cell (show w1.drew.cell? ⟨w.heap.size, 3, none⟩ = _ from z3) hB0
  obtain ⟨x2, xv2, hbox2, _⟩ := hv2.box
  obtain ⟨c0, c1, c2, c3, c4, _, _, _, fz⟩ := vbox_facts hbox2
  have HT := Lib.hid (Vt.join HK2.out HS2.out (Vt.of_set hv2 e b))
  clear hd1 hsd hdt ht hw hv2 hk2 hs2 hbox2
  go_wp2
  go_ret
  have hl := set_lies HH.out.lies hX HW.out e b
  exact ⟨rfl, d', Vt.pre (HB1.out.trans ((Below.refl _ w1).drew.mono (Nat.le_of_lt hwl))) HT.out, hl.1, HH.out.ok.set he b, hl.2.1, hl.2.2.1, by rw [hl.2.2.2.1]; rfl, hl.2.2.2.2⟩
theorem VolT.more {w w' : World} {g p k k' : Nat} {S : Nat → Prop} {d : Dsk} {s s' : Vst} (h : VolT w w' g p S d s k s') (hk : k ≤ k') (hs : k' ≤ 90000) : VolT w w' g p S d s k' s' := by
  obtain ⟨d', ⟨S', h1, h2, h3⟩, h4, h5⟩ := h
  exact ⟨d', ⟨S', h1.more hk hs, h2, h3⟩, h4.more hk, h5⟩
theorem set_v (e : Int) (b : Bool) (g p k : Nat) (S : Nat → Prop) (d : Dsk) (s : Vst) (w : World) (h : Vready w g p S d k s) (hu : d.used + 24 ≤ d.cap) :
    Calls Tryz.prog 66 #[.pointer (some ⟨g, 0, none⟩), .int .i64 e, .bool b] w fun r w' => r = .returned (cerr (s.set e b).2) ∧ VolT w w' g p S d s (k + 10) (s.set e b).1 := by
  by_cases h1 : e < 0 ∨ 2147483647 < e
  · refine (set_no e b g p k S d s w h h1).mono ?_
    rintro r w' ⟨rfl, rfl⟩
    rw [show s.set e b = (s, 1) by unfold Vst.set; rw [if_pos h1]]
    exact ⟨rfl, h.same (Below.refl _ _) _ (by omega) (by omega)⟩
  · obtain ⟨n, rfl⟩ := Int.eq_ofNat_of_zero_le (show 0 ≤ e by omega)
    by_cases h2 : n < s.epoch
    · refine (set_old n b g p k S d s w h (by omega) h2).mono ?_
      rintro r w' ⟨rfl, rfl⟩
      rw [show s.set (n : Int) b = (s, 13) by unfold Vst.set; rw [if_neg h1, if_pos (by omega)]]
      exact ⟨rfl, h.same (Below.refl _ _) _ (by omega) (by omega)⟩
    · rw [set_ok (by omega) (by omega)]
      exact set_o n b g p k S d s w h (by omega) (by omega) hu

set_option maxRecDepth 100000 in
set_option maxHeartbeats 1000000 in
theorem keys_v (key : Nat) (most : Int) (g p k : Nat) (S : Nat → Prop) (d : Dsk) (s : Vst) (w : World) (h : Vready w g p S d k s) :
    Calls Tryz.prog 27 #[.pointer (some ⟨g, 0, none⟩), .int .u64 (key : Int), .int .i64 most] w fun r w' => ∃ v', r = .returned v' ∧ w'.ownsRow w.heap.size 83 5 v' (Q.fromL s.idx key most).length (row Q.pcells (Q.fromL s.idx key most)) ∧ Below w.heap.size w w' := by
  obtain ⟨x, xv, hbox, hix⟩ := h.box
  have hl : s.idx.length ≤ 1048576 := by have := s.idx_len; have := h.ok.few; omega
  obtain ⟨_, _, _, _, _, _, _, c7, _⟩ := vbox_facts hbox
  have HX := Lib.hid hix
  clear h hbox hix
  go_enter Tryz.func27, Tryz.ntmps27
  go_wp2_with fail
  refine (Q.from_any _ xv s.idx key most w (.at x xv s.idx HX.out) hl).mono ?_
  rintro r w1 ⟨v', rfl, hown, hb⟩
  have HO := Lib.hid hown
  have HB := Lib.hid hb
  clear hown hb
  go_wp2
  go_ret
  exact ⟨v', rfl, HO.out, HB.out⟩

def set7 (w : World) (g : Nat) (u0 u1 u2 u3 u4 u5 u6 : Value) : World := ((((((w.setCell ⟨g, 0, none⟩ u0).setCell ⟨g, 1, none⟩ u1).setCell ⟨g, 2, none⟩ u2).setCell ⟨g, 3, none⟩ u3).setCell ⟨g, 4, none⟩ u4).setCell ⟨g, 5, none⟩ u5).setCell ⟨g, 6, none⟩ u6
theorem set7_done {w w1 : World} {B : Nat} {a0 a1 a2 a3 a4 a5 a6 : Value} {T : TypeId} (h : Blk w1 B #[a0, a1, a2, a3, a4, a5, a6] T) (hb : Below B w w1) (u0 u1 u2 u3 u4 u5 u6 : Value) :
    (set7 w1 B u0 u1 u2 u3 u4 u5 u6).cell? ⟨B, 0, none⟩ = some u0 ∧ (set7 w1 B u0 u1 u2 u3 u4 u5 u6).cell? ⟨B, 1, none⟩ = some u1 ∧ (set7 w1 B u0 u1 u2 u3 u4 u5 u6).cell? ⟨B, 2, none⟩ = some u2 ∧ (set7 w1 B u0 u1 u2 u3 u4 u5 u6).cell? ⟨B, 3, none⟩ = some u3 ∧
    (set7 w1 B u0 u1 u2 u3 u4 u5 u6).cell? ⟨B, 4, none⟩ = some u4 ∧ (set7 w1 B u0 u1 u2 u3 u4 u5 u6).cell? ⟨B, 5, none⟩ = some u5 ∧ (set7 w1 B u0 u1 u2 u3 u4 u5 u6).cell? ⟨B, 6, none⟩ = some u6 ∧ Below B w (set7 w1 B u0 u1 u2 u3 u4 u5 u6) := by
  have hz : Blk (set7 w1 B u0 u1 u2 u3 u4 u5 u6) B #[u0, u1, u2, u3, u4, u5, u6] T := by
    have h1 := ((((((h.set 0 u0).set 1 u1).set 2 u2).set 3 u3).set 4 u4).set 5 u5).set 6 u6
    simp at h1
    exact h1
  have hB := Nat.le_refl B
  exact ⟨hz.cell 0 rfl, hz.cell 1 rfl, hz.cell 2 rfl, hz.cell 3 rfl, hz.cell 4 rfl, hz.cell 5 rfl, hz.cell 6 rfl, ((((((hb.setCell hB _).setCell hB _).setCell hB _).setCell hB _).setCell hB _).setCell hB _).setCell hB _⟩
/-- What is told of a volume. -/
def infoV (s : Vst) : Value := .agg #[.int .i64 (s.num : Int), .int .i64 (s.gen : Int), .int .i64 (s.epoch : Int), .int .i64 (s.size : Int), .int .i64 ((s.idx.length : Int) - (Q.goneN s.idx : Int)), .int .i64 (Q.goneN s.idx : Int), .bool s.shut]
set_option maxRecDepth 100000 in
set_option maxHeartbeats 1000000 in
theorem info_v (g p k : Nat) (S : Nat → Prop) (d : Dsk) (s : Vst) (w : World) (h : Vready w g p S d k s) :
    Calls Tryz.prog 21 #[.pointer (some ⟨g, 0, none⟩)] w fun r w' => r = .returned (infoV s) ∧ Below w.heap.size w w' := by
  have hal := below_alloc w (.cells #[.int .i64 0, .int .i64 0, .int .i64 0, .int .i64 0, .int .i64 0, .int .i64 0, .bool false] 62)
  have HAL := Lib.hid hal
  obtain ⟨x, xv, hbox, hix⟩ := (h.below hal).box
  have hl : s.idx.length ≤ 1048576 := by have := s.idx_len; have := h.ok.few; omega
  obtain ⟨_, _, _, _, _, _, _, c7, _⟩ := vbox_facts hbox
  have HX := Lib.hid hix
  have HH := Lib.hid h
  unfold infoV
  obtain ⟨G, hG⟩ : ∃ G, Q.goneN s.idx = G := ⟨_, rfl⟩
  obtain ⟨A, hA⟩ : ∃ A : Int, (s.idx.length : Int) - (G : Int) = A := ⟨_, rfl⟩
  rw [hG, hA]
  have HG := Lib.hid hG
  have HA := Lib.hid hA
  clear h hbox hix hal hG hA
  go_enter Tryz.func21, Tryz.ntmps21
  go_wp2_with fail
  refine (Q.len_any _ xv s.idx _ (.at x xv s.idx HX.out) hl).mono ?_
  rintro e w1 ⟨rfl, hb1⟩
  rw [HG.out, HA.out]
  have HB1 := Lib.hid (HAL.out.trans (hb1.mono (by simp)))
  have HZ := Lib.hid ((Blk.new w #[.int .i64 0, .int .i64 0, .int .i64 0, .int .i64 0, .int .i64 0, .int .i64 0, .bool false] 62).below hb1 (by simp))
  obtain ⟨x2, xv2, hbox2, _⟩ := (HH.out.below HB1.out).box
  obtain ⟨_, c1, c2, c3, c4, _, c6, _, fz⟩ := vbox_facts hbox2
  clear hb1 hbox2 c7
  go_wp2_with fail
  have z0 := HZ.out.cell 0 rfl
  have z1 := HZ.out.cell 1 rfl
  have z2 := HZ.out.cell 2 rfl
  have z3 := HZ.out.cell 3 rfl
  have z4 := HZ.out.cell 4 rfl
  have z5 := HZ.out.cell 5 rfl
  have z6 := HZ.out.cell 6 rfl
  have zf := fun j => HZ.out.free j
  have hF := set7_done HZ.out HB1.out (.int .i64 (s.num : Int)) (.int .i64 (s.gen : Int)) (.int .i64 (s.epoch : Int)) (.int .i64 (s.size : Int)) (.int .i64 A) (.int .i64 (G : Int)) (.bool s.shut)
  unfold set7 at hF
  have HF := Lib.hid hF
  clear hF
  go_still_tail 27, (by kernel_rfl)
  change wpList _ _ _ _ _ w1.drew
  go_wp2
  obtain ⟨y0, y1, y2, y3, y4, y5, y6, yb⟩ := HF.out
  exact bodyPost_ret (v := .agg #[.int .i64 (s.num : Int), .int .i64 (s.gen : Int), .int .i64 (s.epoch : Int), .int .i64 (s.size : Int), .int .i64 A, .int .i64 (G : Int), .bool s.shut]) (by simp [results, Tryz.results21, go_sem, y0, y1, y2, y3, y4, y5, y6]) rfl ⟨rfl, yb.drew⟩

end Go.Proofs.YtoblbipkkdiddaaGreatDoor
end

section
namespace Go.Proofs.YtoblbipkkdiddaaGreatDoor
open Go.RowKit Go.Cor

structure Lsp (d : Dsk) (k : Nat) : Prop where
  fs : Fs d k
/-- A volume, whatever its file is. -/
structure Vsp (w : World) (g p : Nat) (S : Nat → Prop) (d : Dsk) (k : Nat) (s : Vst) : Prop where
  vl : Vl w g p S d k s
  lies : Lsp d k
  ok : s.Ok
theorem Vready.sp {w : World} {g p k : Nat} {S : Nat → Prop} {d : Dsk} {s : Vst} (h : Vready w g p S d k s) : Vsp w g p S d k s := ⟨h.vl, ⟨h.lies.fs⟩, h.ok⟩
theorem Vsp.box {w : World} {g p k : Nat} {S : Nat → Prop} {d : Dsk} {s : Vst} (h : Vsp w g p S d k s) : ∃ x v, Blk w g (vcells p x s) 107 ∧ Q.At w x v s.idx := h.vl.box
theorem Vsp.below {w w' : World} {g p k : Nat} {S : Nat → Prop} {d : Dsk} {s : Vst} (h : Vsp w g p S d k s) (hb : Below w.heap.size w w') : Vsp w' g p S d k s := ⟨h.vl.below hb (Nat.le_refl _), h.lies, h.ok⟩
theorem Vsp.kept {w w' : World} {g p k : Nat} {S T : Nat → Prop} {d : Dsk} {s : Vst} (h : Vsp w g p S d k s) (hk : Kept T w w') (hT : ∀ b, S b → ¬ T b) : Vsp w' g p S d k s := ⟨h.vl.kept hk hT, h.lies, h.ok⟩

set_option maxRecDepth 100000 in
set_option maxHeartbeats 1000000 in
theorem raw_p (n : Ndl) (off : Nat) (b : List UInt8) (g p k : Nat) (S : Nat → Prop) (d : Dsk) (s : Vst) (w : World) (h : Vsp w g p S d k s) (hv : view d (nmD s.num s.gen) = some b) (hb : off + nlen n ≤ b.length) (hl : b.length ≤ 16777216) (hn : n.data.length ≤ 4096) :
    Calls Tryz.prog 43 #[.pointer (some ⟨g, 0, none⟩), Q.pval (posN n off)] w fun e w' =>
      ∃ v', e = .returned (.tuple #[v', .nilIface]) ∧ w'.ownsRow w.heap.size 5 1 v' (nlen n) (bvs ((b.drop off).take (nlen n))) ∧ Below w.heap.size w w' := by
  obtain ⟨L, hL⟩ : ∃ L, n.data.length = L := ⟨_, rfl⟩
  have HH := Lib.hid h
  have HV := Lib.hid hv
  have HB := Lib.hid hb
  have HL := Lib.hid hl
  have HN := Lib.hid hn
  have HLL := Lib.hid hL
  have HSZ := Lib.hid (fun w => size_n n w hn)
  rw [hL] at HSZ
  obtain ⟨M, hM⟩ : ∃ M, nlen n = M := ⟨_, rfl⟩
  rw [hM] at HSZ HB ⊢
  simp only [posN, hL]
  obtain ⟨key, cookie, gone, data⟩ := n
  simp only
  clear h hv hb hl hn hL hM
  have hal := below_alloc w (.cells #[.int .u64 (key : Int), .int .i64 (off : Int), .int .i64 (L : Int), .int .u32 (cookie : Int), .bool gone] 83)
  have HAL := Lib.hid hal
  have HVL := Lib.hid ((HH.out.vl.below hal (Nat.le_refl _)).drew)
  obtain ⟨z0, z1, z2, z3, z4, _⟩ := Q.blk5_facts (Blk.new w #[.int .u64 (key : Int), .int .i64 (off : Int), .int .i64 (L : Int), .int .u32 (cookie : Int), .bool gone] 83)
  obtain ⟨w0, hw0⟩ : ∃ w0, w.alloc (.cells #[.int .u64 (key : Int), .int .i64 (off : Int), .int .i64 (L : Int), .int .u32 (cookie : Int), .bool gone] 83) = w0 := ⟨_, rfl⟩
  have hgl : g < w0.heap.size := by
    have h1 := HVL.out.lt g
    obtain ⟨x, v, Sd, _, hS⟩ := HVL.out
    have h2 := h1 ((hS g).2 (.inl rfl))
    rw [hw0] at h2
    exact h2
  have hBl : w.heap.size < w0.heap.size := by rw [← hw0]; simp
  go_enter Tryz.func43, Tryz.ntmps43
  go_upto_region 3 with fail
  rw [hw0] at HAL HVL z1 z2
  have K0 : w0.drew.cell? ⟨g, 0, none⟩ = some (.pointer (some ⟨p, 0, none⟩)) ∧ w0.drew.cell? ⟨w.heap.size, 1, none⟩ = some (.int .i64 (off : Int)) ∧ w0.drew.cell? ⟨w.heap.size, 2, none⟩ = some (.int .i64 (L : Int)) := ⟨Vl.cells HVL.out, z1, z2⟩
  clear z0 z1 z2 z3 z4 hw0 hal
  go_region_held3 (fun wx => wx.cell? ⟨g, 0, none⟩ = some (.pointer (some ⟨p, 0, none⟩)) ∧ wx.cell? ⟨w.heap.size, 1, none⟩ = some (.int .i64 (off : Int)) ∧ wx.cell? ⟨w.heap.size, 2, none⟩ = some (.int .i64 (L : Int))) (first | exact K0 | exact Ka | exact Kb) (first | (go_at_call 46; refine (file_vl g p k S d s w0.drew HH.out.ok HVL.out).mono ?_; rintro e wa ⟨rfl, hna⟩; have HBa := Lib.hid (drewn_below hna); have HVa := Lib.hid (HVL.out.below HBa.out (Nat.le_refl _)); have Ka := rk_below HBa.out hgl hBl K0) | (go_at_call 74; refine (HSZ.out _).mono ?_; rintro e wz ⟨rfl, rfl⟩) | (go_at_call 73; refine (read_vl wa g p S d k s (nmD s.num s.gen) b off M HVa.out HH.out.lies.fs HV.out HB.out HL.out).mono ?_; rintro e wb ⟨vb, rfl, hown, hbb⟩; have Kb := rk_below hbb (Nat.lt_of_lt_of_le hgl HBa.out.size) (Nat.lt_of_lt_of_le hBl HBa.out.size) Ka))
  have HO := Lib.hid (ownsRow_base hown (base' := w.heap.size) (Nat.le_of_lt (Nat.lt_of_lt_of_le hBl HBa.out.size)))
  have HBF := Lib.hid (((HAL.out.trans ((Below.refl _ w0).drew.mono (Nat.le_of_lt hBl))).trans (HBa.out.mono (Nat.le_of_lt hBl))).trans (hbb.mono (Nat.le_of_lt (Nat.lt_of_lt_of_le hBl HBa.out.size))))
  clear hown hbb K0 Ka Kb
  go_wp2
  go_ret2
  exact ⟨vb, rfl, HO.out, HBF.out⟩


theorem get_cc (v : Value) (l : List UInt8) (w : World) (hv : IsB w v l) (hl : l.length ≤ 1099511627776) (h0 : getCode l ≠ 0) :
    Calls Tryz.prog 44 #[v] w fun e w' => e = .returned (.tuple #[Nd.nzero, .int .i64 0, ercode (getCode l)]) ∧ Below w.heap.size w w' := by
  by_cases h1 : l.length < 32
  · rw [show getCode l = 3 by unfold getCode; rw [if_pos h1]]
    exact Nd.get_bad1 v l w hv h1
  cases h2 : formedB l with
  | false => rw [show getCode l = 4 by unfold getCode; rw [if_neg h1, if_pos h2]]; exact Nd.get_bad2 v l w hv hl (by omega) h2
  | true =>
  have h2' : ¬ formedB l = false := by rw [h2]; simp
  by_cases h3 : l.length < total l
  · rw [show getCode l = 3 by unfold getCode; rw [if_neg h1, if_neg h2', if_pos h3]]; exact Nd.get_bad3 v l w hv hl (by omega) h2 h3
  cases h4 : sumOkN l with
  | false => rw [show getCode l = 5 by unfold getCode; rw [if_neg h1, if_neg h2', if_neg h3, if_pos h4]]; exact Nd.get_bad4 v l w hv hl (by omega) h2 (by omega) h4
  | true =>
  have h4' : ¬ sumOkN l = false := by rw [h4]; simp
  cases h5 : zeroB (padOf l) with
  | false => rw [show getCode l = 4 by unfold getCode; rw [if_neg h1, if_neg h2', if_neg h3, if_neg h4', if_pos h5]]; exact Nd.get_bad5 v l w hv hl (by omega) h2 (by omega) h4 h5
  | true =>
  exact absurd (show getCode l = 0 by unfold getCode; rw [if_neg h1, if_neg h2', if_neg h3, if_neg h4', if_neg (by rw [h5]; simp)]) h0

set_option maxRecDepth 100000 in
set_option maxHeartbeats 1000000 in
theorem get_w (n : Ndl) (off : Nat) (b : List UInt8) (key c g p k : Nat) (S : Nat → Prop) (d : Dsk) (s : Vst) (w : World) (h : Vsp w g p S d k s) (hn : s.look key c = 0) (hf : fnd s.idx key = some (posN n off)) (hv : view d (nmD s.num s.gen) = some b) (hb : off + nlen n ≤ b.length) (hl : b.length ≤ 16777216) (hd : (b.drop off).take (nlen n) = nbytes n) (hnf : n.fits) (hnc : ncheck n = 0) :
    Calls Tryz.prog 22 #[.pointer (some ⟨g, 0, none⟩), .int .u64 (key : Int), .int .u32 (c : Int)] w fun e w' =>
      ∃ x cc, e = .returned (.tuple #[Nd.nval n (.slice x n.data.length cc), .nilIface]) ∧ w'.ownsRow w.heap.size 5 1 (.slice x n.data.length cc) n.data.length (bvs n.data) ∧ Below w.heap.size w w' := by
  have hal := below_alloc w (.cells #[.int .u64 0, .int .u32 0, .bool false, .slice none 0 0] 48)
  have HAL := Lib.hid hal
  have h0 := h.below hal
  have HH := Lib.hid h
  obtain ⟨x, xv, hbox, hix⟩ := h0.box
  have HB := Lib.hid (blob_ok g p x xv s key c _ _ h.ok hbox hix hf (by rw [← hf, blobN_look]; exact hn))
  have HRW := Lib.hid (fun w1 (hb1 : Below w.heap.size w w1) => raw_p n off b g p k S d s w1 (h.below hb1) hv hb hl (ncheck_ok hnc).1)
  rw [hd] at HRW
  have HGN := Lib.hid (fun v w1 hv => got_n n v w1 hv hnf hnc)
  have HNE := Lib.hid (nlen_eq n)
  obtain ⟨P, hP⟩ : ∃ P, posN n off = P := ⟨_, rfl⟩
  have HPO := Lib.hid hP
  have he := fun W => Tryz.eqlPosV P P W
  simp only [ne_eq, not_true_eq_false, decide_false] at he
  have hgd := Tryz.guardPosV
  rw [hP] at HB HRW
  have hpo : P.off = (off : Int) := by rw [← hP]; rfl
  have HPV := Lib.hid (fun v w1 hv => position_v n v off w1 hv)
  rw [hP] at HPV
  obtain ⟨pk, po, pl, pc, pg⟩ := P
  simp only at hpo
  subst hpo
  obtain ⟨L, hL⟩ : ∃ L, n.data.length = L := ⟨_, rfl⟩
  have HL := Lib.hid hL
  rw [hL] at HGN ⊢
  clear h h0 hbox hix hn hf hv hb hl hd hnf hnc hal hP hL
  go_enter Tryz.func22, Tryz.ntmps22
  go_wp2_with fail
  refine HB.out.mono ?_
  rintro e w1 ⟨rfl, hb1⟩
  have HX1 := Lib.hid ((Blk.new w #[.int .u64 0, .int .u32 0, .bool false, .slice none 0 0] 48).below hb1 (by simp))
  have HB1 := Lib.hid (HAL.out.trans (hb1.mono HAL.out.size))
  have hlt1 : w.heap.size < w1.heap.size := by have := hb1.size; simp at this; omega
  clear hb1
  have HB2 := Lib.hid (HB1.out.alloc HB1.out.size (.cells #[.int .u64 (pk : Int), .int .i64 (off : Int), .int .i64 pl, .int .u32 (pc : Int), .bool pg] 83))
  have HX2 := Lib.hid (HX1.out.alloc (.cells #[.int .u64 (pk : Int), .int .i64 (off : Int), .int .i64 pl, .int .u32 (pc : Int), .bool pg] 83))
  have HY2 := Lib.hid (Blk.new w1 #[.int .u64 (pk : Int), .int .i64 (off : Int), .int .i64 pl, .int .u32 (pc : Int), .bool pg] 83)
  go_wp2_with fail
  refine (HRW.out _ HB2.out).mono ?_
  rintro e w3 ⟨vb, rfl, hown3, hb3⟩
  have HX3 := Lib.hid (HX2.out.below hb3 (by simp; omega))
  have HY3 := Lib.hid (HY2.out.below hb3 (by simp))
  have HB3 := Lib.hid (HB2.out.trans (hb3.mono HB2.out.size))
  have hlt3 : w1.heap.size < w3.heap.size := by have := hb3.size; simp at this; omega
  have HO3 := Lib.hid (IsB.own hown3 HNE.out.symm)
  clear hown3 hb3 HX2 HY2 HX1
  go_wp2_with fail
  refine (HGN.out vb _ HO3.out).mono ?_
  rintro e w4 ⟨xx, cc, rfl, hown4, hb4⟩
  have HX4 := Lib.hid (HX3.out.below hb4 (by omega))
  have HY4 := Lib.hid (HY3.out.below hb4 (by omega))
  have HB4 := Lib.hid (HB3.out.trans (hb4.mono (by omega)))
  have hlt4 : w3.heap.size ≤ w4.heap.size := hb4.size
  have HO4 := Lib.hid hown4
  clear hown4 hb4 HX3 HY3
  obtain ⟨w5, hw5⟩ : ∃ w5, w4.alloc (.cells #[.int .u64 (n.key : Int), .int .u32 (n.cookie : Int), .bool n.gone, .slice xx L cc] 48) = w5 := ⟨_, rfl⟩
  have hN5 := Blk.new w4 #[.int .u64 (n.key : Int), .int .u32 (n.cookie : Int), .bool n.gone, .slice xx L cc] 48
  have hX5 := HX4.out.alloc (.cells #[.int .u64 (n.key : Int), .int .u32 (n.cookie : Int), .bool n.gone, .slice xx L cc] 48)
  have hY5 := HY4.out.alloc (.cells #[.int .u64 (n.key : Int), .int .u32 (n.cookie : Int), .bool n.gone, .slice xx L cc] 48)
  have hB5 := HB4.out.alloc HB4.out.size (.cells #[.int .u64 (n.key : Int), .int .u32 (n.cookie : Int), .bool n.gone, .slice xx L cc] 48)
  have hO5 := ownsRow_below HO4.out (below_alloc w4 (.cells #[.int .u64 (n.key : Int), .int .u32 (n.cookie : Int), .bool n.gone, .slice xx L cc] 48)) (Nat.le_refl _)
  rw [hw5] at hN5 hX5 hY5 hB5 hO5
  have HN5 := Lib.hid hN5
  have HX5 := Lib.hid hX5
  have HB5 := Lib.hid hB5
  have HO5 := Lib.hid hO5
  have HI5 := Lib.hid (show IsB w5.drew (.slice xx L cc) n.data from IsB.own (ownsRow_below hO5 ((Below.refl _ w5).drew) (Nat.le_refl _)) HL.out.symm)
  have hl5 : w4.heap.size < w5.heap.size := hN5.lt
  have hlA : w1.heap.size < w5.heap.size := hY5.lt
  have hlB : w.heap.size < w5.heap.size := hX5.lt
  have K0 : w5.drew.cell? ⟨w4.heap.size, 0, none⟩ = some (.int .u64 (n.key : Int)) ∧ w5.drew.cell? ⟨w4.heap.size, 1, none⟩ = some (.int .u32 (n.cookie : Int)) ∧ w5.drew.cell? ⟨w4.heap.size, 2, none⟩ = some (.bool n.gone) ∧ w5.drew.cell? ⟨w4.heap.size, 3, none⟩ = some (.slice xx L cc) ∧ w5.drew.cell? ⟨w1.heap.size, 0, none⟩ = some (.int .u64 (pk : Int)) ∧ w5.drew.cell? ⟨w1.heap.size, 1, none⟩ = some (.int .i64 (off : Int)) ∧ w5.drew.cell? ⟨w1.heap.size, 2, none⟩ = some (.int .i64 pl) ∧ w5.drew.cell? ⟨w1.heap.size, 3, none⟩ = some (.int .u32 (pc : Int)) ∧ w5.drew.cell? ⟨w1.heap.size, 4, none⟩ = some (.bool pg) :=
    ⟨hN5.cell 0 rfl, hN5.cell 1 rfl, hN5.cell 2 rfl, hN5.cell 3 rfl, hY5.cell 0 rfl, hY5.cell 1 rfl, hY5.cell 2 rfl, hY5.cell 3 rfl, hY5.cell 4 rfl⟩
  go_upto_region 8 with fail
  clear hN5 hX5 hY5 hB5 hO5 hw5
  go_region_held3 (fun wx => wx.cell? ⟨w4.heap.size, 0, none⟩ = some (.int .u64 (n.key : Int)) ∧ wx.cell? ⟨w4.heap.size, 1, none⟩ = some (.int .u32 (n.cookie : Int)) ∧ wx.cell? ⟨w4.heap.size, 2, none⟩ = some (.bool n.gone) ∧ wx.cell? ⟨w4.heap.size, 3, none⟩ = some (.slice xx L cc) ∧ wx.cell? ⟨w1.heap.size, 0, none⟩ = some (.int .u64 (pk : Int)) ∧ wx.cell? ⟨w1.heap.size, 1, none⟩ = some (.int .i64 (off : Int)) ∧ wx.cell? ⟨w1.heap.size, 2, none⟩ = some (.int .i64 pl) ∧ wx.cell? ⟨w1.heap.size, 3, none⟩ = some (.int .u32 (pc : Int)) ∧ wx.cell? ⟨w1.heap.size, 4, none⟩ = some (.bool pg)) (first | exact K0 | exact Ka) (first | (go_at_call 45; refine (HPV.out (.slice xx L cc) w5.drew HI5.out).mono ?_; rintro e w6 ⟨rfl, hb6⟩; have Ka := gk_below hb6 hl5 hlA K0))
  have HX6 := Lib.hid ((HX5.out.below ((Below.refl _ w5).drew) hlB).below hb6 hlB)
  have HB6 := Lib.hid ((HB5.out.trans ((Below.refl _ w5).drew.mono (Nat.le_of_lt hlB))).trans (hb6.mono (Nat.le_of_lt hlB)))
  have HO6 := Lib.hid (ownsRow_below (ownsRow_below HO5.out ((Below.refl _ w5).drew) (Nat.le_refl _)) hb6 (Nat.le_refl _))
  obtain ⟨b0, b1, b2, b3, _⟩ := Ka
  have z0 := HX6.out.cell 0 rfl
  have z1 := HX6.out.cell 1 rfl
  have z2 := HX6.out.cell 2 rfl
  have z3 := HX6.out.cell 3 rfl
  have zf := fun j => HX6.out.free j
  have hF := set4_done HX6.out HB6.out (.int .u64 (n.key : Int)) (.int .u32 (n.cookie : Int)) (.bool n.gone) (.slice xx L cc)
  unfold set4 at hF
  have HF := Lib.hid hF
  have HO7 := Lib.hid (Nd.got_fin (w := w) (u0 := .int .u64 (n.key : Int)) (u1 := .int .u32 (n.cookie : Int)) (u2 := .bool n.gone) (u3 := .slice xx L cc) (ownsRow_base HO6.out (base' := w.heap.size + 1) (by omega)))
  clear hF hb6 K0
  go_wp2
  obtain ⟨y0, y1, y2, y3, yb⟩ := HF.out
  exact bodyPost_ret (v := .tuple #[.agg #[.int .u64 (n.key : Int), .int .u32 (n.cookie : Int), .bool n.gone, .slice xx L cc], .nilIface]) (by simp [results, Tryz.results22, go_sem, y0, y1, y2, y3]) rfl ⟨xx, cc, rfl, HO7.out, yb⟩

set_option maxRecDepth 100000 in
set_option maxHeartbeats 1000000 in
theorem keys_p (key : Nat) (most : Int) (g p k : Nat) (S : Nat → Prop) (d : Dsk) (s : Vst) (w : World) (h : Vsp w g p S d k s) :
    Calls Tryz.prog 27 #[.pointer (some ⟨g, 0, none⟩), .int .u64 (key : Int), .int .i64 most] w fun r w' => ∃ v', r = .returned v' ∧ w'.ownsRow w.heap.size 83 5 v' (Q.fromL s.idx key most).length (row Q.pcells (Q.fromL s.idx key most)) ∧ Below w.heap.size w w' := by
  obtain ⟨x, xv, hbox, hix⟩ := h.box
  have hl : s.idx.length ≤ 1048576 := by have := s.idx_len; have := h.ok.few; omega
  obtain ⟨_, _, _, _, _, _, _, c7, _⟩ := vbox_facts hbox
  have HX := Lib.hid hix
  clear h hbox hix
  go_enter Tryz.func27, Tryz.ntmps27
  go_wp2_with fail
  refine (Q.from_any _ xv s.idx key most w (.at x xv s.idx HX.out) hl).mono ?_
  rintro r w1 ⟨v', rfl, hown, hb⟩
  have HO := Lib.hid hown
  have HB := Lib.hid hb
  clear hown hb
  go_wp2
  go_ret
  exact ⟨v', rfl, HO.out, HB.out⟩


end Go.Proofs.YtoblbipkkdiddaaGreatDoor
end

section
namespace Go.Proofs.YtoblbipkkdiddaaGreatDoor
open Go.RowKit Go.Cor

theorem blk_set4_other {w : World} {g a : Nat} {cs : Array Value} {T : TypeId} (h : Blk w g cs T) (ha : a ≠ g) (u0 u1 u2 u3 : Value) : Blk (set4 w a u0 u1 u2 u3) g cs T := by
  unfold set4
  exact (((h.other ha u0).other ha u1).other ha u2).other ha u3
set_option maxRecDepth 100000 in
set_option maxHeartbeats 1000000 in
theorem get_x (n : Ndl) (off : Nat) (b : List UInt8) (key c g p k : Nat) (S : Nat → Prop) (d : Dsk) (s : Vst) (w : World) (h : Vsp w g p S d k s) (hn : s.look key c = 0) (hf : fnd s.idx key = some (posN n off)) (hv : view d (nmD s.num s.gen) = some b) (hb : off + nlen n ≤ b.length) (hl : b.length ≤ 16777216) (hd : getCode ((b.drop off).take (nlen n)) ≠ 0) (hnd : n.data.length ≤ 4096) :
    Calls Tryz.prog 22 #[.pointer (some ⟨g, 0, none⟩), .int .u64 (key : Int), .int .u32 (c : Int)] w fun e w' =>
      ∃ A, e = .returned (.tuple #[Nd.nzero, .iface 116 (.pointer (some ⟨A, 0, none⟩))]) ∧ Below w.heap.size w w' := by
  have hal := below_alloc w (.cells #[.int .u64 0, .int .u32 0, .bool false, .slice none 0 0] 48)
  have HAL := Lib.hid hal
  have h0 := h.below hal
  have HH := Lib.hid h
  obtain ⟨x, xv, hbox, hix⟩ := h0.box
  have HB := Lib.hid (blob_ok g p x xv s key c _ _ h.ok hbox hix hf (by rw [← hf, blobN_look]; exact hn))
  have HRW := Lib.hid (fun w1 (hb1 : Below w.heap.size w w1) => raw_p n off b g p k S d s w1 (h.below hb1) hv hb hl hnd)
  obtain ⟨l, hlq⟩ : ∃ l, (b.drop off).take (nlen n) = l := ⟨_, rfl⟩
  have hll : l.length = nlen n := by rw [← hlq, List.length_take, List.length_drop]; omega
  rw [hlq] at HRW hd
  have HGC := Lib.hid (fun v w1 (hv : IsB w1 v l) => get_cc v l w1 hv (by rw [hll]; unfold nlen padn; omega) hd)
  obtain ⟨q, hq⟩ : ∃ q, getCode l = q := ⟨_, rfl⟩
  rw [hq] at HGC
  have HNE := Lib.hid hll.symm
  obtain ⟨P, hP⟩ : ∃ P, posN n off = P := ⟨_, rfl⟩
  rw [hP] at HB HRW
  have hpo : P.off = (off : Int) := by rw [← hP]; rfl
  obtain ⟨pk, po, pl, pc, pg⟩ := P
  simp only at hpo
  subst hpo
  have HFI := Lib.hid (fun wx (hb1 : Below w.heap.size w wx) => file_vl g p k S d s wx h.ok (h.below hb1).vl)
  clear h h0 hbox hix hn hf hv hb hl hd hnd hal hP hll hq hlq
  go_enter Tryz.func22, Tryz.ntmps22
  go_wp2_with fail
  refine HB.out.mono ?_
  rintro e w1 ⟨rfl, hb1⟩
  have HX1 := Lib.hid ((Blk.new w #[.int .u64 0, .int .u32 0, .bool false, .slice none 0 0] 48).below hb1 (by simp))
  have HB1 := Lib.hid (HAL.out.trans (hb1.mono HAL.out.size))
  have hlt1 : w.heap.size < w1.heap.size := by have := hb1.size; simp at this; omega
  clear hb1
  have HB2 := Lib.hid (HB1.out.alloc HB1.out.size (.cells #[.int .u64 (pk : Int), .int .i64 (off : Int), .int .i64 pl, .int .u32 (pc : Int), .bool pg] 83))
  have HX2 := Lib.hid (HX1.out.alloc (.cells #[.int .u64 (pk : Int), .int .i64 (off : Int), .int .i64 pl, .int .u32 (pc : Int), .bool pg] 83))
  have HY2 := Lib.hid (Blk.new w1 #[.int .u64 (pk : Int), .int .i64 (off : Int), .int .i64 pl, .int .u32 (pc : Int), .bool pg] 83)
  go_wp2_with fail
  refine (HRW.out _ HB2.out).mono ?_
  rintro e w3 ⟨vb, rfl, hown3, hb3⟩
  have HX3 := Lib.hid (HX2.out.below hb3 (by simp; omega))
  have HY3 := Lib.hid (HY2.out.below hb3 (by simp))
  have HB3 := Lib.hid (HB2.out.trans (hb3.mono HB2.out.size))
  have hlt3 : w1.heap.size < w3.heap.size := by have := hb3.size; simp at this; omega
  have HO3 := Lib.hid (IsB.own hown3 HNE.out)
  clear hown3 hb3 HX2 HY2 HX1
  go_wp2_with fail
  refine (HGC.out vb _ HO3.out).mono ?_
  rintro e w4 ⟨rfl, hb4⟩
  have HX4 := Lib.hid (HX3.out.below hb4 (by omega))
  have HY4 := Lib.hid (HY3.out.below hb4 (by omega))
  have HB4 := Lib.hid (HB3.out.trans (hb4.mono (by omega)))
  have hlt4 : w3.heap.size ≤ w4.heap.size := hb4.size
  clear hb4 HX3 HY3
  go_upto_region 8 with fail
  go_quiet (fail)
  obtain ⟨w5, hw5⟩ : ∃ w5, ((w4.alloc (.cells #[.int .u64 0, .int .u32 0, .bool false, .slice none 0 0] 48)).drewN nq) = w5 := ⟨_, rfl⟩
  have hX5 : Blk w5 w.heap.size #[.int .u64 0, .int .u32 0, .bool false, .slice none 0 0] 48 := by rw [← hw5]; exact (HX4.out.alloc (.cells #[.int .u64 0, .int .u32 0, .bool false, .slice none 0 0] 48))
  have hY5 : Blk w5 w1.heap.size #[.int .u64 (pk : Int), .int .i64 (off : Int), .int .i64 pl, .int .u32 (pc : Int), .bool pg] 83 := by rw [← hw5]; exact (HY4.out.alloc (.cells #[.int .u64 0, .int .u32 0, .bool false, .slice none 0 0] 48))
  have hB5 : Below w.heap.size w w5 := by rw [← hw5]; exact below_drewN (HB4.out.alloc HB4.out.size _) _
  have HX5 := Lib.hid hX5.drew
  have HY5 := Lib.hid hY5.drew
  have HB5 := Lib.hid hB5.drew
  clear hX5 hY5 hB5
  go_upto_region 11 with fail
  try rw [hw5]
  clear hw5
  refine AnyE.start (S := (fun wx => wx.cell? ⟨w1.heap.size, 1, none⟩ = some (.int .i64 (off : Int)))) 10 (by kernel_rfl) (HY5.out.cell 1 rfl) (fun hHeld => ?_)
  refine AnyE.take (i := 0) (v := ?_) rfl (by kernel_rfl) (by kernel_rfl) (by kernel_rfl) (by kernel_rfl) (fun _ _ _ h => h) (Or.inl ⟨by rfl, ?_⟩) (by assumption) ?_
  rotate_left 1
  · intro w hSw
    (try dsimp only at hSw)
    go_simp
    all_goals (with_reducible rfl)
  try simp only [Act.put, List.getElem_toArray, List.getElem_cons_zero, List.getElem_cons_succ, List.setIfInBounds_toArray, List.set_cons_zero, List.set_cons_succ]
  refine AnyE.take (i := 1) (v := ?_) rfl (by kernel_rfl) (by kernel_rfl) (by kernel_rfl) (by kernel_rfl) (fun _ _ _ h => h) (Or.inl ⟨by rfl, ?_⟩) (by assumption) ?_
  rotate_left 1
  · intro w hSw
    (try dsimp only at hSw)
    go_simp
    all_goals (with_reducible rfl)
  try simp only [Act.put, List.getElem_toArray, List.getElem_cons_zero, List.getElem_cons_succ, List.setIfInBounds_toArray, List.set_cons_zero, List.set_cons_succ]
  refine AnyE.take (i := 3) (v := ?_) rfl (by kernel_rfl) (by kernel_rfl) (by kernel_rfl) (by kernel_rfl) (fun _ _ _ h => h) (Or.inl ⟨by rfl, ?_⟩) (by assumption) ?_
  rotate_left 1
  · intro w hSw
    (try dsimp only at hSw)
    go_simp
    all_goals (with_reducible rfl)
  try simp only [Act.put, List.getElem_toArray, List.getElem_cons_zero, List.getElem_cons_succ, List.setIfInBounds_toArray, List.set_cons_zero, List.set_cons_succ]
  refine AnyE.take (i := 4) (v := ?_) rfl (by kernel_rfl) (by kernel_rfl) (by kernel_rfl) (by kernel_rfl) (fun _ _ _ h => h) (Or.inl ⟨by rfl, ?_⟩) (by assumption) ?_
  rotate_left 1
  · intro w hSw
    (try dsimp only at hSw)
    go_simp
    all_goals (with_reducible rfl)
  try simp only [Act.put, List.getElem_toArray, List.getElem_cons_zero, List.getElem_cons_succ, List.setIfInBounds_toArray, List.set_cons_zero, List.set_cons_succ]
  refine AnyE.take (i := 5) (v := ?_) rfl (by kernel_rfl) (by kernel_rfl) (by kernel_rfl) (by kernel_rfl) (fun _ _ _ h => h) (Or.inl ⟨by rfl, ?_⟩) (by assumption) ?_
  rotate_left 1
  · intro w hSw
    (try dsimp only at hSw)
    go_simp
    all_goals (with_reducible rfl)
  try simp only [Act.put, List.getElem_toArray, List.getElem_cons_zero, List.getElem_cons_succ, List.setIfInBounds_toArray, List.set_cons_zero, List.set_cons_succ]
  refine AnyE.next (rs := [2]) (by kernel_rfl) (by simp) ?_
  refine AllE.cons rfl (fun K hK => ?_) AllE.nil
  go_simp
  refine (HFI.out _ HB5.out).mono ?_
  rintro e wa ⟨rfl, hna⟩
  have hba := drewn_below hna
  have HXa := Lib.hid (HX5.out.below hba HX5.out.lt)
  have HYa := Lib.hid (HY5.out.below hba HY5.out.lt)
  have HBa := Lib.hid (HB5.out.trans (hba.mono HB5.out.size))
  refine hK.out _ _ (HYa.out.cell 1 rfl) (fun hHeld => ?_)
  clear hK K hna hba
  try simp only [Act.put, List.getElem_toArray, List.getElem_cons_zero, List.getElem_cons_succ, List.setIfInBounds_toArray, List.set_cons_zero, List.set_cons_succ]
  refine AnyE.take (i := 6) (v := ?_) rfl (by kernel_rfl) (by kernel_rfl) (by kernel_rfl) (by kernel_rfl) (fun _ _ _ h => h) (Or.inl ⟨by rfl, ?_⟩) (by assumption) ?_
  rotate_left 1
  · intro w hSw
    (try dsimp only at hSw)
    go_simp
    all_goals (with_reducible rfl)
  try simp only [Act.put, List.getElem_toArray, List.getElem_cons_zero, List.getElem_cons_succ, List.setIfInBounds_toArray, List.set_cons_zero, List.set_cons_succ]
  refine AnyE.next (rs := [7, 9]) (by kernel_rfl) (by simp) ?_
  refine AllE.cons rfl (fun K hK => ?_) ?_
  · go_simp
    have hXb := HXa.out.alloc (.cells #[.string (nmD s.num s.gen), .int .i64 (off : Int), ercode q] 119)
    have hYb := HYa.out.alloc (.cells #[.string (nmD s.num s.gen), .int .i64 (off : Int), ercode q] 119)
    have hBb := HBa.out.alloc HBa.out.size (.cells #[.string (nmD s.num s.gen), .int .i64 (off : Int), ercode q] 119)
    refine hK.out _ _ (hYb.cell 1 rfl) (fun hHeld => ?_)
    obtain ⟨wb, hwb⟩ : ∃ wb, wa.alloc (.cells #[.string (nmD s.num s.gen), .int .i64 (off : Int), ercode q] 119) = wb := ⟨_, rfl⟩
    rw [hwb] at hXb hYb hBb hHeld
    rw [hwb]
    clear hK K hwb
    try simp only [Act.put, List.getElem_toArray, List.getElem_cons_zero, List.getElem_cons_succ, List.setIfInBounds_toArray, List.set_cons_zero, List.set_cons_succ]
    refine AnyE.take (i := 8) (v := ?_) rfl (by kernel_rfl) (by kernel_rfl) (by kernel_rfl) (by kernel_rfl) (fun _ _ _ h => h) (Or.inl ⟨by rfl, ?_⟩) (by assumption) ?_
    rotate_left 1
    · intro w hSw
      (try dsimp only at hSw)
      go_simp
      all_goals (with_reducible rfl)
    try simp only [Act.put, List.getElem_toArray, List.getElem_cons_zero, List.getElem_cons_succ, List.setIfInBounds_toArray, List.set_cons_zero, List.set_cons_succ]
    have z0 := hXb.cell 0 rfl
    have z1 := hXb.cell 1 rfl
    have z2 := hXb.cell 2 rfl
    have z3 := hXb.cell 3 rfl
    have zf := fun j => hXb.free j
    have XB := blk_set4 hXb (.int .u64 0) (.int .u32 0) (.bool false) (.slice none 0 0)
    have XY := blk_set4_other hYb (show w.heap.size ≠ w1.heap.size by omega) (.int .u64 0) (.int .u32 0) (.bool false) (.slice none 0 0)
    have XW := below_set4 (g := w.heap.size) (u0 := .int .u64 0) (u1 := .int .u32 0) (u2 := .bool false) (u3 := .slice none 0 0) hBb (Nat.le_refl _)
    unfold set4 at XB XY XW
    refine AnyE.next (rs := [9]) (by kernel_rfl) (by simp) ?_
    refine AllE.cons rfl (fun K hK => ?_) AllE.nil
    go_simp
    refine hK.out _ _ (XY.cell 1 rfl) (fun hHeld => ?_)
    clear hK K z0 z1 z2 z3 zf
    try simp only [Act.put, List.getElem_toArray, List.getElem_cons_zero, List.getElem_cons_succ, List.setIfInBounds_toArray, List.set_cons_zero, List.set_cons_succ]
    refine AnyE.next (rs := [10]) (by kernel_rfl) (by simp) ?_
    refine AllE.last rfl (fun K hK => ?_)
    go_simp
    refine hK.out _ _ ?_
    clear hK K
    try simp only [Act.put, List.getElem_toArray, List.getElem_cons_zero, List.getElem_cons_succ, List.setIfInBounds_toArray, List.set_cons_zero, List.set_cons_succ]
    refine AnyE.done (by kernel_rfl) ?_ _
    have y0 := XB.cell 0 rfl
    have y1 := XB.cell 1 rfl
    have y2 := XB.cell 2 rfl
    have y3 := XB.cell 3 rfl
    have YB := Lib.hid (XW)
    clear hHeld
    go_wp2_with fail
    exact bodyPost_ret (v := .tuple #[Nd.nzero, .iface 116 (.pointer (some ⟨wa.heap.size, 0, none⟩))]) (by simp [results, Tryz.results22, go_sem, y0, y1, y2, y3]) rfl ⟨wa.heap.size, rfl, YB.out⟩
  refine AllE.cons rfl (fun K hK => ?_) AllE.nil
  have z0 := HXa.out.cell 0 rfl
  have z1 := HXa.out.cell 1 rfl
  have z2 := HXa.out.cell 2 rfl
  have z3 := HXa.out.cell 3 rfl
  have zf := fun j => HXa.out.free j
  have XB := blk_set4 HXa.out (.int .u64 0) (.int .u32 0) (.bool false) (.slice none 0 0)
  have XY := blk_set4_other HYa.out (show w.heap.size ≠ w1.heap.size by omega) (.int .u64 0) (.int .u32 0) (.bool false) (.slice none 0 0)
  have XW := below_set4 (g := w.heap.size) (u0 := .int .u64 0) (u1 := .int .u32 0) (u2 := .bool false) (u3 := .slice none 0 0) HBa.out (Nat.le_refl _)
  unfold set4 at XB XY XW
  go_simp
  refine hK.out _ _ (XY.cell 1 rfl) (fun hHeld => ?_)
  clear hK K z0 z1 z2 z3 zf
  try simp only [Act.put, List.getElem_toArray, List.getElem_cons_zero, List.getElem_cons_succ, List.setIfInBounds_toArray, List.set_cons_zero, List.set_cons_succ]
  refine AnyE.next (rs := [7]) (by kernel_rfl) (by simp) ?_
  refine AllE.cons rfl (fun K hK => ?_) AllE.nil
  obtain ⟨wb, hwb⟩ : ∃ wb, (((wa.setCell ⟨w.heap.size, 0, none⟩ (.int .u64 0)).setCell ⟨w.heap.size, 1, none⟩ (.int .u32 0)).setCell ⟨w.heap.size, 2, none⟩ (.bool false)).setCell ⟨w.heap.size, 3, none⟩ (.slice none 0 0) = wb := ⟨_, rfl⟩
  rw [hwb] at XB XY XW hHeld
  rw [hwb]
  go_simp
  have hXb := XB.alloc (.cells #[.string (nmD s.num s.gen), .int .i64 (off : Int), ercode q] 119)
  have hYb := XY.alloc (.cells #[.string (nmD s.num s.gen), .int .i64 (off : Int), ercode q] 119)
  have hBb := XW.alloc XW.size (.cells #[.string (nmD s.num s.gen), .int .i64 (off : Int), ercode q] 119)
  refine hK.out _ _ (hYb.cell 1 rfl) (fun hHeld => ?_)
  clear hK K hwb
  try simp only [Act.put, List.getElem_toArray, List.getElem_cons_zero, List.getElem_cons_succ, List.setIfInBounds_toArray, List.set_cons_zero, List.set_cons_succ]
  refine AnyE.take (i := 8) (v := ?_) rfl (by kernel_rfl) (by kernel_rfl) (by kernel_rfl) (by kernel_rfl) (fun _ _ _ h => h) (Or.inl ⟨by rfl, ?_⟩) (by assumption) ?_
  rotate_left 1
  · intro w hSw
    (try dsimp only at hSw)
    go_simp
    all_goals (with_reducible rfl)
  try simp only [Act.put, List.getElem_toArray, List.getElem_cons_zero, List.getElem_cons_succ, List.setIfInBounds_toArray, List.set_cons_zero, List.set_cons_succ]
  refine AnyE.next (rs := [10]) (by kernel_rfl) (by simp) ?_
  refine AllE.last rfl (fun K hK => ?_)
  go_simp
  refine hK.out _ _ ?_
  clear hK K
  try simp only [Act.put, List.getElem_toArray, List.getElem_cons_zero, List.getElem_cons_succ, List.setIfInBounds_toArray, List.set_cons_zero, List.set_cons_succ]
  refine AnyE.done (by kernel_rfl) ?_ _
  have y0 := hXb.cell 0 rfl
  have y1 := hXb.cell 1 rfl
  have y2 := hXb.cell 2 rfl
  have y3 := hXb.cell 3 rfl
  have YB := Lib.hid (hBb)
  clear hHeld
  go_wp2_with fail
  exact bodyPost_ret (v := .tuple #[Nd.nzero, .iface 116 (.pointer (some ⟨wb.heap.size, 0, none⟩))]) (by simp [results, Tryz.results22, go_sem, y0, y1, y2, y3]) rfl ⟨wb.heap.size, rfl, YB.out⟩

end Go.Proofs.YtoblbipkkdiddaaGreatDoor
end

section
namespace Go.Proofs.YtoblbipkkdiddaaGreatDoor
open Go.RowKit Go.Cor

set_option maxRecDepth 100000 in
set_option maxHeartbeats 1000000 in
theorem write_f (n : Ndl) (v : Value) (g p k : Nat) (S : Nat → Prop) (d : Dsk) (s : Vst) (w : World) (hrd : Vready w g p S d k s) (hv : IsB w v n.data) (hn : n.fits ∧ ncheck n = 0) (hm : s.most < s.size + nlen n) (hf : s.ns.length + 1 < 4096) :
    Calls Tryz.prog 50 #[.pointer (some ⟨g, 0, none⟩), Nd.nval n v] w fun e w' =>
      e = .returned (ercode 11) ∧ VolT w w' g p S d s (k + 4) s := by
  have hs := hrd.ok
  have h := hrd.vl
  have HV := Lib.hid hv
  have HR := Lib.hid hrd
  have HS := Lib.hid hs
  have HN := Lib.hid hn
  have HVL := Lib.hid h
  have hms := hs.most
  have hnl : (nbytes n).length = nlen n := nlen_eq n
  obtain ⟨L, hL⟩ : ∃ L, s.idx.length = L := ⟨_, rfl⟩
  have hLl : L < 4096 := by have := s.idx_len; omega
  have HLL := Lib.hid hL
  obtain ⟨N, hN⟩ : ∃ N, nlen n = N := ⟨_, rfl⟩
  rw [hN] at hnl hm
  have HNL := Lib.hid hnl
  have HNN := Lib.hid hN
  obtain ⟨Z, hZ⟩ : ∃ Z, s.size = Z := ⟨_, rfl⟩
  have HZ := Lib.hid hZ
  rw [hZ] at hm
  obtain ⟨M, hM⟩ : ∃ M, s.most = M := ⟨_, rfl⟩
  have HM := Lib.hid hM
  rw [hM] at hm hms
  have hlt := fun b hb => h.lt b hb
  have HLT := Lib.hid hlt
  have hms2 := hs.size
  rw [hZ, hM] at hms2
  have hnb : N ≤ 8192 := by rw [← hN]; have := (ncheck_ok hn.2).1; unfold nlen padn; omega
  clear hv hs hn h hL hN hZ hM hlt hrd
  have hal : Below w.heap.size w (w.alloc (Nd.ncells n v 48)) := below_alloc w _
  go_enter Tryz.func50, Tryz.ntmps50
  go_wp2_with fail
  refine (Nd.put_okN n v _ (HV.out.mono hal (Nat.le_refl _)) HN.out.1 HN.out.2).mono ?_
  rintro e w1 ⟨v1, rfl, hown1, hb1⟩
  rw [HNL.out] at hown1
  have HBX := Lib.hid ((Nd.Boxed.new w n v 48).mono hb1 (by simp))
  have HB1 := Lib.hid (hal.trans (hb1.mono (by simp)))
  have hlt1 : w.heap.size < w1.heap.size := by have := hb1.size; simp at this; omega
  have HO1 := Lib.hid hown1
  have HV1 := Lib.hid (HVL.out.below HB1.out (Nat.le_refl _))
  clear hown1 hb1
  obtain ⟨x, xv, hbox, hix⟩ := HV1.out.box
  obtain ⟨c0, c1, c2, c3, c4, c5, c6, c7, fz⟩ := vbox_facts hbox
  go_wp2_with fail
  refine (Q.len_any _ xv s.idx _ (.at x xv s.idx hix) (by have := HLL.out; omega)).mono ?_
  rintro e w2 ⟨rfl, hb2⟩
  rw [HLL.out]
  obtain ⟨G, hG⟩ : ∃ G, Q.goneN s.idx = G := ⟨_, rfl⟩
  have hGL : G ≤ L := by rw [← hG, ← HLL.out]; exact Q.goneN_le _
  rw [hG]
  obtain ⟨A, hA⟩ : ∃ A : Int, (L : Int) - (G : Int) = A := ⟨_, rfl⟩
  rw [hA]
  have HB2 := Lib.hid (HB1.out.trans (hb2.mono HB1.out.size))
  have HBX2 := Lib.hid (HBX.out.mono hb2 hlt1)
  have HO2 := Lib.hid (show w2.ownsRow w.heap.size 5 1 v1 N (bvs (nbytes n)) from ownsRow_base (ownsRow_below HO1.out hb2 (Nat.le_refl _)) (by simp))
  have HV2 := Lib.hid (HV1.out.below hb2 (Nat.le_refl _))
  have hlt2 : w.heap.size < w2.heap.size := Nat.lt_of_lt_of_le hlt1 hb2.size
  clear c0 c1 c2 c3 c4 c5 c6 c7 fz hbox hix HO1 HBX HB1 HV1 hlt1 hb2 hal hG
  have HW := Lib.hid (Vl.cells HV2.out)
  obtain ⟨x2, xv2, hbox, hix⟩ := HV2.out.box
  obtain ⟨c0, _, _, _, _, c5, c6, c7, fz⟩ := vbox_facts hbox
  rw [HM.out] at c5
  rw [HZ.out] at c6
  have HBO := Lib.hid hbox
  clear hbox hix
  have hlen := fun W => len_X (P := Tryz.prog) (IsX.own HO2.out) 45 3 _ Tryz.underlying45 W
  have e1 : IntKind.i64.wrap (A + (G : Int)) = (L : Int) := by rw [IntWalk.i64_in _ (by omega)]; omega
  have e2 : decide ((4096 : Int) ≤ (L : Int)) = false := decide_eq_false (by omega)
  have e2' : decide (4096 ≤ L) = false := decide_eq_false (by omega)
  have e3 : IntKind.i64.wrap ((M : Int) - (Z : Int)) = (M : Int) - (Z : Int) := IntWalk.i64_in _ (by omega)
  have e4 : decide ((M : Int) - (Z : Int) < (N : Int)) = true := decide_eq_true (by omega)
  go_wp2
  go_quiet (fail)
  have HB3 := Lib.hid (below_drewN HB2.out nq)
  clear HB2 HW HBO HV2 HBX2 HO2
  go_wp2
  go_ret
  exact ⟨rfl, HR.out.same HB3.out _ (by omega) (by omega)⟩
set_option maxRecDepth 100000 in
set_option maxHeartbeats 1000000 in
theorem put_f (key cookie : Nat) (data : List UInt8) (v : Value) (g p k : Nat) (S : Nat → Prop) (d : Dsk) (s : Vst) (w : World) (h : Vready w g p S d k s) (hv : IsB w v data) (hn : Ndl.fits ⟨key, cookie, false, data⟩) (hc : ncheck ⟨key, cookie, false, data⟩ = 0) (hsh : s.shut = false) (hf : hasN (fnd s.idx key) = 0) (hm : s.most < s.size + nlen ⟨key, cookie, false, data⟩) (hfew : s.ns.length + 1 < 4096) :
    Calls Tryz.prog 26 #[.pointer (some ⟨g, 0, none⟩), Nd.nval ⟨key, cookie, false, data⟩ v] w fun e w' =>
      e = .returned (ercode 11) ∧ VolT w w' g p S d s (k + 4) s := by
  have HVV := Lib.hid (show IsB (w.alloc (Nd.ncells ⟨key, cookie, false, data⟩ v 48)) v data from hv.mono (below_alloc w _) (Nat.le_refl _))
  have HV := Lib.hid hv
  have HH := Lib.hid h
  have HC := Lib.hid hc
  have HSH := Lib.hid hsh
  have HF := Lib.hid hf
  have HNF := Lib.hid hn
  have HM := Lib.hid hm
  have HFW := Lib.hid hfew
  clear h hv hc hsh hf hn hm hfew
  go_enter Tryz.func26, Tryz.ntmps26
  go_wp2_with fail
  refine (Nd.check_any ⟨key, cookie, false, data⟩ v _ HVV.out).mono ?_
  rintro e w1 ⟨rfl, hb1⟩
  rw [HC.out, Nd.cerr_0]
  have HX1 := Lib.hid (fb_put (n := ⟨key, cookie, false, data⟩) hb1)
  obtain ⟨⟨b0, b1, b2, b3⟩, hB1, hlt1⟩ := HX1.out
  have HB1 := Lib.hid hB1
  obtain ⟨x, xv, hbox, hix⟩ := (HH.out.below HB1.out).box
  obtain ⟨_, _, _, _, c4, _, _, _, _⟩ := vbox_facts hbox
  rw [HSH.out] at c4
  have HFV := Lib.hid (find_v g p x xv s key _ HH.out.ok hbox hix)
  clear hb1 hB1 hbox hix
  go_wp2_with fail
  refine HFV.out.mono ?_
  rintro e w2 ⟨rfl, hb2⟩
  rw [HF.out]
  have HB2 := Lib.hid (HB1.out.trans (hb2.mono HB1.out.size))
  have HX2 := Lib.hid (HX1.out.1.mono hb2 hlt1)
  have hlt2 : w.heap.size < w2.heap.size := Nat.lt_of_lt_of_le hlt1 hb2.size
  clear hb2 c4 b0 b1 b2 b3 HFV HX1
  obtain ⟨b0, b1, b2, b3⟩ := HX2.out
  simp only at b0 b1 b2 b3
  go_wp2_with fail
  refine (write_f ⟨key, cookie, false, data⟩ v g p k S d s _ (HH.out.below (HB2.out.alloc HB2.out.size _)) (HV.out.mono (HB2.out.alloc HB2.out.size _) (Nat.le_refl _)) ⟨HNF.out, HC.out⟩ HM.out HFW.out).mono ?_
  rintro e w3 ⟨rfl, ht⟩
  have HT := Lib.hid (VolT.pre (HB2.out.alloc HB2.out.size _) ht)
  clear ht b0 b1 b2 b3
  go_wp2
  go_ret
  exact ⟨rfl, HT.out⟩
set_option maxRecDepth 100000 in
set_option maxHeartbeats 1000000 in
theorem del_f (key c g p k : Nat) (S : Nat → Prop) (d : Dsk) (s : Vst) (w : World) (h : Vready w g p S d k s) (hn : s.look key c = 0) (hs : s.shut = false) (hk : key < 18446744073709551616) (hc : c < 4294967296) (hm : s.most < s.size + nlen (grave key c)) (hfew : s.ns.length + 1 < 4096) :
    Calls Tryz.prog 65 #[.pointer (some ⟨g, 0, none⟩), .int .u64 (key : Int), .int .u32 (c : Int)] w fun e w' =>
      e = .returned (ercode 11) ∧ VolT w w' g p S d s (k + 4) s := by
  have HH := Lib.hid h
  obtain ⟨x, xv, hbox, hix⟩ := h.box
  obtain ⟨n, a, b, _, _, _, _, _, hf⟩ := look_some hn
  have HB := Lib.hid (blob_ok g p x xv s key c _ w h.ok hbox hix hf (by rw [← hf, blobN_look]; exact hn))
  have HBO := Lib.hid hbox
  have HS := Lib.hid hs
  have HM := Lib.hid hm
  have HFW := Lib.hid hfew
  have HG := Lib.hid (grave_ok hk hc)
  clear h hbox hix hn hf hs hm hfew hk hc
  go_enter Tryz.func65, Tryz.ntmps65
  go_wp2_with fail
  refine HB.out.mono ?_
  rintro e w1 ⟨rfl, hb1⟩
  have HB1 := Lib.hid (fun o => hb1.alloc hb1.size o)
  obtain ⟨_, _, _, _, c4, _, _, _, _⟩ := vbox_facts (HBO.out.below hb1 HBO.out.lt)
  rw [HS.out] at c4
  have hlt : g < w1.heap.size := Nat.lt_of_lt_of_le HBO.out.lt hb1.size
  clear hb1
  go_wp2_with fail
  refine (write_f (grave key c) (.slice none 0 0) g p k S d s _ (HH.out.below (HB1.out _)) (IsB.nil _) HG.out HM.out HFW.out).mono ?_
  rintro e w3 ⟨rfl, ht⟩
  have HT := Lib.hid (VolT.pre (HB1.out _) ht)
  clear ht c4
  go_wp2
  go_ret
  exact ⟨rfl, HT.out⟩
/-- What is wanted of the room for a needle, be there any or not. -/
structure Room' (s : Vst) (d : Dsk) (n : Ndl) : Prop where
  few : s.ns.length + 1 < 4096
  cap : s.size + nlen n ≤ s.most → d.used + nlen n ≤ d.cap
theorem Room'.room {s : Vst} {d : Dsk} {n : Ndl} (h : Room' s d n) (hm : s.size + nlen n ≤ s.most) : Room s d n := ⟨hm, h.few, h.cap hm⟩
theorem write_w (n : Ndl) (v : Value) (g p k : Nat) (S : Nat → Prop) (d : Dsk) (s : Vst) (w : World) (h : Vready w g p S d k s) (hv : IsB w v n.data) (hvS : ∀ b, liesB v n.data b → ¬ S b) (hn : n.fits ∧ ncheck n = 0) (hr : Room' s d n) :
    Calls Tryz.prog 50 #[.pointer (some ⟨g, 0, none⟩), Nd.nval n v] w fun e w' =>
      e = .returned (cerr (s.write n).2) ∧ VolT w w' g p S d s (k + 4) (s.write n).1 := by
  by_cases hm : s.most < s.size + nlen n
  · rw [show s.write n = (s, 11) by unfold Vst.write; rw [if_pos hm]]
    exact write_f n v g p k S d s w h hv hn hm hr.few
  · rw [show s.write n = (s.wrote n, 0) by unfold Vst.write; rw [if_neg hm]]
    exact write_v n v g p k S d s w h.ok h.vl h.lies (by have := h.few; omega) hv hvS hn (by omega) hr.few (hr.cap (by omega))
theorem put_w (n : Ndl) (v : Value) (g p k : Nat) (S : Nat → Prop) (d : Dsk) (s : Vst) (w : World) (h : Vready w g p S d k s) (hv : IsB w v n.data) (hvS : ∀ b, liesB v n.data b → ¬ S b) (hn : n.fits) (hr : Room' s d n) :
    Calls Tryz.prog 26 #[.pointer (some ⟨g, 0, none⟩), Nd.nval n v] w fun e w' =>
      e = .returned (cerr (s.put n).2) ∧ VolT w w' g p S d s (k + 4) (s.put n).1 := by
  obtain ⟨key, cookie, gone, data⟩ := n
  cases gone with
  | true =>
    rw [Vst.put_gone rfl]
    exact put_g key cookie data v g p k S d s w h
  | false =>
    by_cases hc : ncheck ⟨key, cookie, false, data⟩ = 0
    · cases hsh : s.shut with
      | true =>
        rw [Vst.put_shut rfl hc hsh]
        exact put_s key cookie data v g p k S d s w h hv hc hsh
      | false =>
        have hf := hasN_newest s key
        cases ho : newest s.ns key with
        | some o =>
          rw [Vst.put_there (n := ⟨key, cookie, false, data⟩) rfl hc hsh ho]
          rw [ho] at hf
          simp only at hf
          cases hg : o.gone with
          | true =>
            rw [hg, if_pos rfl] at hf
            exact put_t key cookie data v g p k S d s w h hv hc hsh 1 (.inl rfl) hf
          | false =>
            rw [hg, if_neg (by decide)] at hf
            exact put_t key cookie data v g p k S d s w h hv hc hsh 2 (.inr rfl) hf
        | none =>
          rw [ho] at hf
          by_cases hm : s.most < s.size + nlen ⟨key, cookie, false, data⟩
          · rw [show s.put ⟨key, cookie, false, data⟩ = (s, 11) by unfold Vst.put Vst.write; simp [hc, hsh, ho, hm]]
            exact put_f key cookie data v g p k S d s w h hv hn hc hsh hf hm hr.few
          · rw [Vst.put_new (n := ⟨key, cookie, false, data⟩) rfl hc hsh ho (by omega)]
            exact put_n key cookie data v g p k S d s w h hv hvS hn hc hsh hf (hr.room (by omega))
    · rw [Vst.put_bad rfl hc]
      exact put_b key cookie data v g p k S d s w h hv hc
theorem del_w (key c g p k : Nat) (S : Nat → Prop) (d : Dsk) (s : Vst) (w : World) (h : Vready w g p S d k s) (hk : key < 18446744073709551616) (hc : c < 4294967296) (hr : Room' s d (grave key c)) :
    Calls Tryz.prog 65 #[.pointer (some ⟨g, 0, none⟩), .int .u64 (key : Int), .int .u32 (c : Int)] w fun e w' =>
      e = .returned (cerr (s.del key c).2) ∧ VolT w w' g p S d s (k + 4) (s.del key c).1 := by
  by_cases hn : s.look key c = 0
  · cases hs : s.shut with
    | true =>
      rw [del_shut hn hs]
      exact del_s key c g p k S d s w h hn hs
    | false =>
      by_cases hm : s.most < s.size + nlen (grave key c)
      · rw [show s.del key c = (s, 11) by unfold Vst.del Vst.write; simp [hn, hs, hm]]
        exact del_f key c g p k S d s w h hn hs hk hc hm hr.few
      · rw [del_ok hn hs (by omega)]
        exact del_o key c g p k S d s w h hn hs hk hc (hr.room (by omega))
  · rw [del_bad hn]
    simp only
    rw [cerr_pos hn]
    exact del_b key c g p k S d s w h hn

end Go.Proofs.YtoblbipkkdiddaaGreatDoor
end

section
namespace Go.Cor

/-- A needle as it is elsewhere, laid: what becomes of the volume, and the code. -/
def Vst.lay (s : Vst) (n : Ndl) : Vst × Nat :=
  if ncheck n ≠ 0 then (s, ncheck n) else match newest s.ns n.key with
    | none => s.write n
    | some o => if o.cookie ≠ n.cookie then (s, 9) else if o.gone = true then (s, 0) else if n.gone = true then s.write n else if sameN o n = true then (s, 0) else (s, 8)
/-- One behind the other, till the first error: how many were laid, and the error. -/
def Vst.lays (s : Vst) : List Ndl → Vst × Nat × Nat
  | [] => (s, 0, 0)
  | n :: r => if (s.lay n).2 ≠ 0 then ((s.lay n).1, 0, (s.lay n).2) else (((s.lay n).1.lays r).1, ((s.lay n).1.lays r).2.1 + 1, ((s.lay n).1.lays r).2.2)
theorem write_le (s : Vst) (n : Ndl) : (s.write n).2 ≤ 17 := by unfold Vst.write; split <;> simp
theorem lay_le (s : Vst) (n : Ndl) : (s.lay n).2 ≤ 17 := by
  have h := ncheck_le n
  unfold Vst.lay
  split
  · simp only; omega
  · split
    · exact write_le s n
    · split
      · simp
      · split
        · simp
        · split
          · exact write_le s n
          · split <;> simp
theorem write_bad {s : Vst} {n : Ndl} (h : (s.write n).2 ≠ 0) : (s.write n).1 = s := by
  unfold Vst.write at h ⊢
  split at h
  · rename_i hm
    rw [if_pos hm]
  · exact absurd rfl h
/-- What stays as it was. -/
structure Stays (s s' : Vst) : Prop where
  num : s'.num = s.num
  gen : s'.gen = s.gen
  most : s'.most = s.most
  epoch : s'.epoch = s.epoch
  shut : s'.shut = s.shut
theorem Stays.refl (s : Vst) : Stays s s := ⟨rfl, rfl, rfl, rfl, rfl⟩
theorem Stays.trans {a b c : Vst} (h : Stays a b) (k : Stays b c) : Stays a c := ⟨k.num.trans h.num, k.gen.trans h.gen, k.most.trans h.most, k.epoch.trans h.epoch, k.shut.trans h.shut⟩
theorem Stays.wrote (s : Vst) (n : Ndl) : Stays s (s.wrote n) := ⟨rfl, rfl, rfl, rfl, rfl⟩

/-- What a key has when one needle comes upon what there was. -/
def joinN (x y : Option Ndl) : Option Ndl := match x, y with
  | none, y => y
  | some n, none => some n
  | some n, some o => if o.gone = true then some o else if n.gone = true then some n else some o
theorem joinN_none (y : Option Ndl) : joinN none y = y := by cases y <;> rfl
/-- Nothing stands against a needle's being laid. -/
def Fits (s : Vst) (n : Ndl) : Prop := ncheck n = 0 ∧ ∀ o, newest s.ns n.key = some o → o.cookie = n.cookie ∧ (o.gone = false → n.gone = false → o = n)
theorem newest_wrote (s : Vst) (n : Ndl) (k : Nat) : newest (s.wrote n).ns k = if n.key = k then some n else newest s.ns k := newest_snoc s.ns n k
theorem write_room {s : Vst} {n : Ndl} (h : s.size + nlen n ≤ s.most) : s.write n = (s.wrote n, 0) := by unfold Vst.write; rw [if_neg (by omega)]
theorem lay_join {s : Vst} {n : Ndl} (h : Fits s n) (hr : s.size + nlen n ≤ s.most) :
    (s.lay n).2 = 0 ∧ (∀ k, newest (s.lay n).1.ns k = if n.key = k then joinN (some n) (newest s.ns k) else newest s.ns k) ∧ (s.lay n).1.size ≤ s.size + nlen n ∧ s.size ≤ (s.lay n).1.size ∧ (s.lay n).1.ns.length ≤ s.ns.length + 1 ∧ Stays s (s.lay n).1 ∧ ∀ m ∈ (s.lay n).1.ns, m ∈ s.ns ∨ m = n := by
  obtain ⟨hc, hf⟩ := h
  have hw : ∀ r, (newest s.ns n.key = none ∨ ∃ o, newest s.ns n.key = some o ∧ o.gone = false ∧ n.gone = true) → s.lay n = r → r = (s.wrote n, 0) → (s.lay n).2 = 0 ∧ (∀ k, newest (s.lay n).1.ns k = if n.key = k then joinN (some n) (newest s.ns k) else newest s.ns k) ∧ (s.lay n).1.size ≤ s.size + nlen n ∧ s.size ≤ (s.lay n).1.size ∧ (s.lay n).1.ns.length ≤ s.ns.length + 1 ∧ Stays s (s.lay n).1 ∧ ∀ m ∈ (s.lay n).1.ns, m ∈ s.ns ∨ m = n := by
    intro r ho e1 e2
    rw [e1, e2]
    refine ⟨rfl, fun k => ?_, Nat.le_of_eq (s.size_wrote n), ?_, by simp [Vst.wrote], Stays.wrote s n, fun m hm => ?_⟩
    · show newest (s.wrote n).ns k = _
      rw [newest_wrote]
      by_cases hk : n.key = k
      · subst hk
        rw [if_pos rfl, if_pos rfl]
        rcases ho with ho | ⟨o, ho, hg, hn⟩
        · rw [ho]; rfl
        · rw [ho]
          show _ = if o.gone = true then some o else if n.gone = true then some n else some o
          rw [if_neg (by simp [hg]), if_pos hn]
      · rw [if_neg hk, if_neg hk]
    · show s.size ≤ (s.wrote n).size
      rw [s.size_wrote]; omega
    · have : m ∈ s.ns ++ [n] := hm
      rcases List.mem_append.1 this with h | h
      · exact .inl h
      · exact .inr (List.mem_singleton.1 h)
  have hs : s.lay n = (s, 0) → (∃ o, newest s.ns n.key = some o ∧ (o.gone = true ∨ o.gone = false ∧ n.gone = false)) → (s.lay n).2 = 0 ∧ (∀ k, newest (s.lay n).1.ns k = if n.key = k then joinN (some n) (newest s.ns k) else newest s.ns k) ∧ (s.lay n).1.size ≤ s.size + nlen n ∧ s.size ≤ (s.lay n).1.size ∧ (s.lay n).1.ns.length ≤ s.ns.length + 1 ∧ Stays s (s.lay n).1 ∧ ∀ m ∈ (s.lay n).1.ns, m ∈ s.ns ∨ m = n := by
    rintro e ⟨o, ho, hg⟩
    rw [e]
    refine ⟨rfl, fun k => ?_, Nat.le_add_right _ _, Nat.le_refl _, Nat.le_succ _, Stays.refl s, fun m hm => .inl hm⟩
    show newest s.ns k = _
    by_cases hk : n.key = k
    · subst hk
      rw [if_pos rfl, ho]
      show _ = if o.gone = true then some o else if n.gone = true then some n else some o
      rcases hg with hg | ⟨hg, hn⟩
      · rw [if_pos hg]
      · rw [if_neg (by simp [hg]), if_neg (by simp [hn])]
    · rw [if_neg hk]
  cases ho : newest s.ns n.key with
  | none =>
    refine hw _ (.inl ho) rfl ?_
    unfold Vst.lay
    rw [if_neg (by simp [hc])]
    simp only [ho]
    exact write_room hr
  | some o =>
    obtain ⟨hk, hd⟩ := hf o ho
    cases hg : o.gone with
    | true =>
      refine hs ?_ ⟨o, ho, .inl hg⟩
      unfold Vst.lay
      rw [if_neg (by simp [hc])]
      simp only [ho]
      rw [if_neg (by simp [hk]), if_pos hg]
    | false =>
      cases hn : n.gone with
      | true =>
        refine hw _ (.inr ⟨o, ho, hg, hn⟩) rfl ?_
        unfold Vst.lay
        rw [if_neg (by simp [hc])]
        simp only [ho]
        rw [if_neg (by simp [hk]), if_neg (by simp [hg]), if_pos hn]
        exact write_room hr
      | false =>
        refine hs ?_ ⟨o, ho, .inr ⟨hg, hn⟩⟩
        unfold Vst.lay
        rw [if_neg (by simp [hc])]
        simp only [ho]
        rw [if_neg (by simp [hk]), if_neg (by simp [hg]), if_neg (by simp [hn]), if_pos (by rw [hd hg hn]; exact sameN_self n)]

theorem find_none {L : List Ndl} {k : Nat} : L.find? (fun n => n.key == k) = none ↔ ∀ n ∈ L, n.key ≠ k := by
  rw [List.find?_eq_none]
  simp
/-- Some needles of different keys laid, where nothing stands against it. -/
theorem lays_join : ∀ (L : List Ndl) (s : Vst), L.Pairwise (fun a b => a.key ≠ b.key) → (∀ n ∈ L, Fits s n) → s.size + tot L ≤ s.most →
    (s.lays L).2 = (L.length, 0) ∧ (∀ k, newest (s.lays L).1.ns k = joinN (L.find? (fun n => n.key == k)) (newest s.ns k)) ∧ (s.lays L).1.size ≤ s.size + tot L ∧ s.size ≤ (s.lays L).1.size ∧ (s.lays L).1.ns.length ≤ s.ns.length + L.length ∧ Stays s (s.lays L).1 ∧ ∀ m ∈ (s.lays L).1.ns, m ∈ s.ns ∨ m ∈ L
  | [], s, _, _, _ => ⟨rfl, fun k => (joinN_none _).symm, Nat.le_add_right _ _, Nat.le_refl _, Nat.le_refl _, Stays.refl s, fun m hm => .inl hm⟩
  | n :: r, s, hp, hf, hr => by
    obtain ⟨hp1, hp2⟩ := List.pairwise_cons.1 hp
    simp only [tot] at hr
    obtain ⟨h1, h2, h3, h4, h5, h6, h7⟩ := lay_join (hf n (List.mem_cons_self ..)) (by omega)
    have hf' : ∀ m ∈ r, Fits (s.lay n).1 m := fun m hm => by
      have hk : ¬ n.key = m.key := hp1 m hm
      refine ⟨(hf m (List.mem_cons_of_mem _ hm)).1, fun o ho => ?_⟩
      rw [h2, if_neg hk] at ho
      exact (hf m (List.mem_cons_of_mem _ hm)).2 o ho
    obtain ⟨g1, g2, g3, g4, g5, g6, g7⟩ := lays_join r (s.lay n).1 hp2 hf' (by rw [h6.most]; omega)
    have e : s.lays (n :: r) = (((s.lay n).1.lays r).1, ((s.lay n).1.lays r).2.1 + 1, ((s.lay n).1.lays r).2.2) := by
      show (if (s.lay n).2 ≠ 0 then _ else _) = _
      rw [if_neg (by simp [h1])]
    rw [e]
    refine ⟨by rw [g1]; rfl, fun k => ?_, by simp only [tot]; omega, by simp only; omega, by simp only [List.length_cons]; omega, h6.trans g6, fun m hm => ?_⟩
    · show newest ((s.lay n).1.lays r).1.ns k = _
      rw [g2, h2, List.find?_cons]
      by_cases hk : n.key = k
      · rw [if_pos hk, beq_iff_eq.2 hk]
        have : r.find? (fun n => n.key == k) = none := find_none.2 fun m hm e => hp1 m hm (hk.trans e.symm)
        rw [this, joinN_none]
      · rw [if_neg hk, beq_eq_false_iff_ne.2 hk]
    · rcases g7 m hm with h | h
      · rcases h7 m h with h | h
        · exact .inl h
        · exact .inr (h ▸ List.mem_cons_self ..)
      · exact .inr (List.mem_cons_of_mem _ h)
/-- A needle laid where it, or what outdates it, is already. -/
theorem lay_same {s : Vst} {n o : Ndl} (h : Fits s n) (ho : newest s.ns n.key = some o) (hg : n.gone = true → o.gone = true) : s.lay n = (s, 0) := by
  obtain ⟨hc, hf⟩ := h
  obtain ⟨hk, hd⟩ := hf o ho
  unfold Vst.lay
  rw [if_neg (by simp [hc])]
  simp only [ho]
  rw [if_neg (by simp [hk])]
  cases og : o.gone with
  | true => rw [if_pos rfl]
  | false =>
    have ng : n.gone = false := by
      cases e : n.gone with
      | false => rfl
      | true => rw [hg e] at og; cases og
    rw [if_neg (by simp), ng, if_neg (by simp), if_pos (by rw [hd og ng]; exact sameN_self n)]
theorem lays_same : ∀ (L : List Ndl) (s : Vst), (∀ n ∈ L, Fits s n ∧ ∃ o, newest s.ns n.key = some o ∧ (n.gone = true → o.gone = true)) → s.lays L = (s, L.length, 0)
  | [], _, _ => rfl
  | n :: r, s, h => by
    obtain ⟨h1, o, ho, hg⟩ := h n (List.mem_cons_self ..)
    have e := lay_same h1 ho hg
    show (if (s.lay n).2 ≠ 0 then _ else _) = _
    rw [e, if_neg (by simp), lays_same r s (fun m hm => h m (List.mem_cons_of_mem _ hm))]
    rfl

/-- The newest needle of each key, by the keys. -/
def Vst.tops (s : Vst) : List Ndl := s.idx.map fun p => (newest s.ns p.key).getD ⟨0, 0, false, []⟩
theorem Vst.top (s : Vst) {p : Pos} (hp : p ∈ s.idx) : ∃ n, newest s.ns p.key = some n ∧ n.key = p.key ∧ p.gone = n.gone ∧ p.cookie = n.cookie ∧ p.len = (n.data.length : Int) ∧ n ∈ s.ns := by
  have h := (mem_fnd s.idx_asc).1 hp
  cases ho : newest s.ns p.key with
  | none => rw [Vst.fnd_none ho] at h; cases h
  | some n =>
    obtain ⟨a, b, _, hf⟩ := Vst.fnd_some ho
    rw [hf] at h
    cases h
    exact ⟨n, rfl, (newest_mem ho).2, rfl, rfl, rfl, (newest_mem ho).1⟩
theorem Vst.idx_has {s : Vst} {k : Nat} {n : Ndl} (h : newest s.ns k = some n) : ∃ p ∈ s.idx, p.key = k := by
  obtain ⟨a, b, _, hf⟩ := Vst.fnd_some h
  exact ⟨_, ((fnd_iff s.idx_asc).1 hf).1, ((fnd_iff s.idx_asc).1 hf).2⟩
theorem Vst.tops_len (s : Vst) : s.tops.length = s.idx.length := List.length_map ..
theorem Vst.tops_mem {s : Vst} {n : Ndl} (h : n ∈ s.tops) : newest s.ns n.key = some n := by
  obtain ⟨p, hp, rfl⟩ := List.mem_map.1 h
  obtain ⟨n, hn, hk, _⟩ := s.top hp
  rw [hn, Option.getD_some, hk, hn]
theorem Vst.tops_apart (s : Vst) : s.tops.Pairwise (fun a b => a.key ≠ b.key) := by
  unfold Vst.tops
  rw [List.pairwise_map]
  refine s.idx_asc.imp_of_mem fun {p q} hp hq h => ?_
  obtain ⟨n, hn, hk, _⟩ := s.top hp
  obtain ⟨m, hm, hj, _⟩ := s.top hq
  rw [hn, hm, Option.getD_some, Option.getD_some, hk, hj]
  omega
theorem Vst.tops_find (s : Vst) (k : Nat) : s.tops.find? (fun n => n.key == k) = newest s.ns k := by
  cases h : s.tops.find? (fun n => n.key == k) with
  | some n =>
    have h1 := Vst.tops_mem (List.mem_of_find?_eq_some h)
    have h2 : n.key = k := by simpa using List.find?_some h
    rw [← h2]; exact h1.symm
  | none =>
    cases ho : newest s.ns k with
    | none => rfl
    | some n =>
      obtain ⟨p, hp, hk⟩ := Vst.idx_has ho
      refine absurd ?_ (find_none.1 h n (List.mem_map.2 ⟨p, hp, by rw [hk, ho]; rfl⟩))
      exact (newest_mem ho).2

/-- All of one volume may be laid on another. -/
def Agree (a b : Vst) : Prop := ∀ k n o, newest a.ns k = some n → newest b.ns k = some o → o.cookie = n.cookie ∧ (o.gone = false → n.gone = false → o = n)
theorem Agree.fits {a b : Vst} (h : Agree a b) (hc : ∀ n ∈ a.ns, ncheck n = 0) {n : Ndl} (hn : n ∈ a.tops) : Fits b n := by
  have h1 := Vst.tops_mem hn
  exact ⟨hc n (newest_mem h1).1, fun o ho => h n.key n o h1 ho⟩
/-- What is laid: all of it. -/
theorem all_laid {a b : Vst} (h : Agree a b) (hc : ∀ n ∈ a.ns, ncheck n = 0) (hr : b.size + tot a.tops ≤ b.most) :
    (b.lays a.tops).2 = (a.idx.length, 0) ∧ (∀ k, newest (b.lays a.tops).1.ns k = joinN (newest a.ns k) (newest b.ns k)) ∧ (b.lays a.tops).1.size ≤ b.size + tot a.tops ∧ Stays b (b.lays a.tops).1 ∧ (b.lays a.tops).1.ns.length ≤ b.ns.length + a.idx.length ∧ ∀ m ∈ (b.lays a.tops).1.ns, m ∈ b.ns ∨ m ∈ a.ns := by
  obtain ⟨h1, h2, h3, _, h5, h6, h7⟩ := lays_join a.tops b a.tops_apart (fun n hn => h.fits hc hn) hr
  refine ⟨by rw [h1, a.tops_len], fun k => by rw [h2, a.tops_find], h3, h6, by rw [a.tops_len] at h5; exact h5, fun m hm => (h7 m hm).imp id fun hm => (newest_mem (Vst.tops_mem hm)).1⟩
theorem joinN_some {n : Ndl} {y : Option Ndl} : ∃ o, joinN (some n) y = some o ∧ (n.gone = true → o.gone = true) ∧ (∀ q, y = some q → q.gone = true → o.gone = true) ∧ (o = n ∨ y = some o) := by
  cases y with
  | none => exact ⟨n, rfl, id, fun q h => (by cases h), .inl rfl⟩
  | some q =>
    by_cases h1 : q.gone = true
    · exact ⟨q, if_pos h1, fun _ => h1, fun r e h => by cases e; exact h, .inr rfl⟩
    · by_cases h2 : n.gone = true
      · exact ⟨n, by show (if _ then _ else _) = _; rw [if_neg h1, if_pos h2], id, fun r e h => by cases e; exact absurd h h1, .inl rfl⟩
      · exact ⟨q, by show (if _ then _ else _) = _; rw [if_neg h1, if_neg h2], fun h => absurd h h2, fun r e h => by cases e; exact h, .inr rfl⟩
/-- Twice is as once. -/
theorem all_again {a b c : Vst} (h : Agree a b) (hc : ∀ n ∈ a.ns, ncheck n = 0) (hj : ∀ k, newest c.ns k = joinN (newest a.ns k) (newest b.ns k)) : c.lays a.tops = (c, a.idx.length, 0) := by
  rw [← a.tops_len]
  refine lays_same a.tops c fun n hn => ?_
  have h1 := Vst.tops_mem hn
  obtain ⟨o, ho, hg, _, ho2⟩ := joinN_some (n := n) (y := newest b.ns n.key)
  have hcn : newest c.ns n.key = some o := by rw [hj, h1, ho]
  refine ⟨⟨hc n (newest_mem h1).1, fun q hq => ?_⟩, o, hcn, hg⟩
  rw [hcn] at hq
  cases hq
  rcases ho2 with rfl | ho2
  · exact ⟨rfl, fun _ _ => rfl⟩
  · exact h n.key n o h1 ho2
/-- The keys of which b has not what a has. -/
def lackB (a b : Vst) (p : Pos) : Bool := match newest b.ns p.key with
  | none => true
  | some o => p.gone && !o.gone
def behindL (a b : Vst) : List Nat := (a.idx.filter (lackB a b)).map Pos.key
theorem behind_none {a b : Vst} (h : ∀ k n, newest a.ns k = some n → ∃ o, newest b.ns k = some o ∧ (n.gone = true → o.gone = true)) : behindL a b = [] := by
  unfold behindL
  rw [List.map_eq_nil_iff, List.filter_eq_nil_iff]
  intro p hp
  obtain ⟨n, hn, _, hg, _⟩ := a.top hp
  obtain ⟨o, ho, hgo⟩ := h _ n hn
  unfold lackB
  rw [ho]
  simp only [Bool.and_eq_true, Bool.not_eq_true', not_and, Bool.not_eq_false]
  intro h1
  exact hgo (by rw [← hg]; exact h1)
theorem behind_len (a b : Vst) : (behindL a b).length ≤ a.idx.length := by
  unfold behindL
  rw [List.length_map]
  exact List.length_filter_le _ _
theorem behind_all {a b c : Vst} (hj : ∀ k, newest c.ns k = joinN (newest a.ns k) (newest b.ns k)) : behindL a c = [] :=
  behind_none fun k n hn => by
    obtain ⟨o, ho, hg, _⟩ := joinN_some (n := n) (y := newest b.ns k)
    exact ⟨o, by rw [hj, hn, ho], hg⟩

end Go.Cor
end
