/- MadeT. -/
import Derived.Test.YtoblbipkkdiddaaGreatDoorM15
set_option linter.unusedVariables false
set_option linter.unusedSimpArgs false

section
namespace Go.Proofs.YtoblbipkkdiddaaGreatDoor
open Go.RowKit Go.Cor

theorem fs_new (cap : Nat) (hc : cap ≤ 1073741824) : Fs (newD cap) 0 := ⟨rfl, ⟨hc, List.Pairwise.nil, List.Pairwise.nil, (fun e he => by cases he), (fun e he => by cases he), (fun e he => by cases he), (fun e he => by cases he), Nat.le_refl _, Nat.le_refl _, Nat.le_refl _, (fun n hn => by cases hn)⟩, List.Pairwise.nil⟩
theorem view_new (cap : Nat) (m : ByteArray) : view (newD cap) m = none := rfl
set_option maxRecDepth 100000 in
theorem MadeJ.start {V M : Nat} {w w2 w3 w4 : World} {g p : Nat} (hp : (w.alloc (.cells zvol 30)).heap.size ≤ p) (h2 : Below (w.alloc (.cells zvol 30)).heap.size (w.alloc (.cells zvol 30)) w2)
    (hm : Made w2 w3 g p (fun b => b = p) (newD 1048576) 16 (vst0 V M 0)) (h4 : Below w3.heap.size w3 w4) :
    ∃ S d, MadeJ V M w (w4.alloc (.cells #[.int .i64 (V : Int), .int .i64 (M : Int), .int .i64 0, .int .i64 16, .bool false, .slice none 0 0, .slice none 0 0] 30)) g p w.heap.size w4.heap.size S d 16 0 (vst0 V M 0) (.slice none 0 0) (.slice none 0 0) [] [] := by
  obtain ⟨S', d', hv, hk, hS, hg, hl, hok, hcap, hnow, hused, hview⟩ := hm
  have e1 : (w.alloc (.cells zvol 30)).heap.size = w.heap.size + 1 := by simp
  rw [e1] at hp h2
  have hs2 := h2.size
  have hs3 := hk.size
  have hs4 := h4.size
  have hz1 := (Blk.new w zvol 30).below h2 (by omega)
  have hz2 := hz1.kept hk (fun e => by omega)
  have hz3 := hz2.below h4 (by omega)
  have hb2 : Below w.heap.size w w2 := (below_alloc w _).trans (h2.mono (by omega))
  have hb3 : Below w.heap.size w w3 := hb2.trans (hk.below hb2.size (fun j hj e => by omega))
  have hb4 := hb3.trans (h4.mono hb3.size)
  have hlow : ∀ b, S' b → w.heap.size + 1 ≤ b ∧ b < w3.heap.size := fun b hb => ⟨by rcases hS b hb with e | e <;> omega, hv.lt b hb⟩
  have hn0 : w4.heap.size ≠ w.heap.size := by omega
  refine ⟨S', d', ⟨⟨(hv.below h4 (Nat.le_refl _)).below (below_alloc w4 _) (Nat.le_refl _), hl, hok, by omega, by rw [hnow]; decide⟩, by omega, ⟨rfl, Q.IsP.nil _, ⟨?_, fun x hx => by cases hx⟩, ?_, ?_, fun x hx => by cases hx⟩, fun b hb => by have := hlow b hb; omega, Nat.le_refl _, hb4.size, hn0, hz3.alloc _, Blk.new w4 _ _, hb4.alloc hb4.size _, ?_, ?_, ?_, rfl, rfl, rfl, Nat.le_refl _, Nat.le_refl _, rfl, ?_⟩⟩
  · exact IsX.nil _ _
  · intro b hb
    rw [show (vst0 V M 0).idx = [] from rfl] at hb
    simp [liesX] at hb
  · intro b hb
    simp [liesX] at hb
  · rw [hused]; rfl
  · rw [hcap]; rfl
  · rw [hnow]; rfl
  · intro m a b c
    rw [hview m a b c]
    exact view_new _ _


theorem take_more {l : List A9v} {i : Nat} {x : A9v} (h : l[i]? = some x) : (l.take (i + 1)).map (·.1) = (l.take i).map (·.1) ++ [x.1] := by
  obtain ⟨hi, rfl⟩ := List.getElem?_eq_some_iff.1 h
  rw [List.take_succ_eq_append_getElem hi, List.map_append]
  rfl
abbrev SY (S : Nat → Prop) (B0 B1 : Nat) (wr wx : World) (b : Nat) : Prop := SX S B0 B1 b ∨ (wr.heap.size ≤ b ∧ b < wx.heap.size)
theorem MadeJ.doR {V M : Nat} {acs : List A9} {w wr wx : World} {g p B0 B1 : Nat} {S : Nat → Prop} {d : Dsk} {k i : Nat} {s : Vst} {lv dv : Value} {ps : List (Ndl × Value)} (h : MadeJ V M w wr g p B0 B1 S d k i s lv dv ps acs) (hi : i ≤ 60) (a : A9) {xa : Option Addr} {xL xc : Nat} (hB : IsB w (.slice xa xL xc) a.n.data) (hd : a.n.data.length ≤ 300) (hb : Below wr.heap.size wr wx) :
    Calls Tryz.prog 30 #[dval s lv dv, av a (.slice xa xL xc)] wx (DoR wx (SY S B0 B1 wr wx) (actV s a).1 (actV s a).2) := by
  have h3 := h.ns
  have h4 := s.idx_len
  have hs := hb.size
  refine do_rw a xa xL xc (SY S B0 B1 wr wx) s lv dv ps wx (h.doc.kept (Kept.of_below hb (Nat.le_refl _)) (fun b hb => ?_)) (fun b hb => ?_) ((hB.mono h.bel (Nat.le_refl _)).mono hb (Nat.le_refl _)) (fun b hb hS => ?_) (by omega) h.r.ok (by omega)
  · rcases hb with hb | hb
    · exact .inl hb
    · exact .inr hb.1
  · rcases hb with hb | hb
    · have := h.lt b hb; omega
    · exact hb.2
  · have h5 := hB.lies_lt hb
    have h6 := h.bel.size
    have h7 := h.b0
    have h8 := h.b1
    rcases hS with (hS | hS | hS) | hS
    · have := h.low b hS; omega
    · omega
    · omega
    · omega
theorem MadeJ.doV {V M : Nat} {acs : List A9} {w wr wa : World} {g p B0 B1 : Nat} {S : Nat → Prop} {d : Dsk} {k i : Nat} {s : Vst} {lv dv : Value} {ps : List (Ndl × Value)} (h : MadeJ V M w wr g p B0 B1 S d k i s lv dv ps acs) (hi : i ≤ 60) (a : A9) {xa : Option Addr} {xL xc : Nat} (hB : IsB w (.slice xa xL xc) a.n.data) (hd : a.n.data.length ≤ 300) (hf : a.n.fits) (hb : Below wr.heap.size wr wa) :
    Calls Tryz.prog 31 #[.pointer (some ⟨g, 0, none⟩), av a (.slice xa xL xc)] wa (DovT wa g p S d s (k + 10) (actV s a).1 (actV s a).2) := by
  have h1 := h.room hi a.n (nlen_small hd)
  have h2 := h.room hi (grave a.n.key a.n.cookie) (nlen_small (by simp [grave]))
  have h3 := h.few
  have h4 := h.size
  have h5 := h.used
  have h6 := h.cap
  refine do_vw a xa xL xc g p k S d s wa (h.r.below hb) ((hB.mono h.bel (Nat.le_refl _)).mono hb (Nat.le_refl _)) (fun b hb hS => ?_) hf h1 h2 (by omega) (by omega)
  have h5 := hB.lies_lt hb
  have := h.low b hS
  omega
/-- What is so of a volume that is made. -/
structure MadeF (V M : Nat) (d : Dsk) (k i : Nat) (s : Vst) (acs : List A9) : Prop where
  few : k ≤ 16 + 10 * i
  used : d.used = 24 + s.size
  cap : d.cap = 1048576
  names : d.now.length = 2
  num : s.num = V
  gen : s.gen = 1
  most : s.most = M
  ns : s.ns.length ≤ i
  size : s.size ≤ 16 + 400 * i
  run : s = runA (vst0 V M 0) acs
  views : ∀ m, m ≠ nmD V 1 → m ≠ nmM V → m ≠ nmS V → view d m = none
theorem MadeJ.fin {V M : Nat} {acs : List A9} {w wr : World} {g p B0 B1 : Nat} {S : Nat → Prop} {d : Dsk} {k i : Nat} {s : Vst} {lv dv : Value} {ps : List (Ndl × Value)} (h : MadeJ V M w wr g p B0 B1 S d k i s lv dv ps acs) (u0 u1 u2 u3 u4 u5 u6 : Value) :
    Vready (set7 wr B0 u0 u1 u2 u3 u4 u5 u6) g p S d k s ∧ DocP (set7 wr B0 u0 u1 u2 u3 u4 u5 u6) S s lv dv ps ∧ Below w.heap.size w (set7 wr B0 u0 u1 u2 u3 u4 u5 u6) ∧ (∀ b, S b → w.heap.size ≤ b) ∧ MadeF V M d k i s acs := by
  refine ⟨⟨h.r.vl.kept (kept_set7 wr B0 _ _ _ _ _ _ _) (fun b hb e => (h.low b hb).2.1 e), h.r.lies, h.r.ok, h.r.few, h.r.names⟩, ?_, below_set7 h.bel h.b0, fun b hb => (h.low b hb).1, ⟨h.few, h.used, h.cap, h.names, h.num, h.gen, h.most, h.ns, h.size, h.run, h.views⟩⟩
  exact (h.doc.kept ((kept_set7 wr B0 _ _ _ _ _ _ _).mono (T := SX S B0 B1) (fun j _ e => .inr (.inl e))) (fun b hb => .inl hb)).kept (S' := S) (Kept.refl _ _) (fun b hb => .inl (.inl hb))
theorem MadeJ.drew {V M : Nat} {acs : List A9} {w wr : World} {g p B0 B1 : Nat} {S : Nat → Prop} {d : Dsk} {k i : Nat} {s : Vst} {lv dv : Value} {ps : List (Ndl × Value)} (h : MadeJ V M w wr g p B0 B1 S d k i s lv dv ps acs) : MadeJ V M w wr.drew g p B0 B1 S d k i s lv dv ps acs :=
  ⟨h.r.below (Below.refl _ _).drew, h.few, h.doc.below (Below.refl _ _).drew, h.low, h.b0, h.b1, h.ne, h.z.drew, h.v.drew, h.bel.drew, h.used, h.cap, h.names, h.num, h.gen, h.most, h.ns, h.size, h.run, h.views⟩
/-- Behind the document's act: its volume lies in X. -/
theorem MadeJ.docX {V M : Nat} {acs : List A9} {w wr wc w' wz : World} {g p B0 B1 X Y : Nat} {S : Nat → Prop} {d : Dsk} {k i : Nat} {s s1 : Vst} {lv dv lv1 dv1 : Value} {ps ps1 : List (Ndl × Value)} (h : MadeJ V M w wr g p B0 B1 S d k i s lv dv ps acs) (hd : DocP w' (SY S B0 B1 wr wc) s1 lv1 dv1 ps1) (hbz : Below w'.heap.size w' wz)
    (hX : (wr.heap.size ≤ X ∧ X < wc.heap.size) ∨ w'.heap.size ≤ X) (hY : (wr.heap.size ≤ Y ∧ Y < wc.heap.size) ∨ w'.heap.size ≤ Y) (u0 u1 u2 u3 u4 u5 u6 t0 t1 t2 t3 : Value) :
    DocP (set4 (set7 wz X u0 u1 u2 u3 u4 u5 u6) Y t0 t1 t2 t3) (SX S B0 B1) s1 lv1 dv1 ps1 := by
  have h1 : DocP wz (fun b => SX S B0 B1 b ∨ b = X ∨ b = Y) s1 lv1 dv1 ps1 := hd.kept (Kept.of_below hbz (Nat.le_refl _)) (fun b hb => by
    rcases hb with hb | rfl | rfl
    · exact .inl (.inl hb)
    · rcases hX with e | e
      · exact .inl (.inr e)
      · exact .inr e
    · rcases hY with e | e
      · exact .inl (.inr e)
      · exact .inr e)
  have h2 := h1.kept (((kept_set7 wz X u0 u1 u2 u3 u4 u5 u6).mono (T := fun b => SX S B0 B1 b ∨ b = X ∨ b = Y) (fun j _ e => .inr (.inl e))).trans ((kept_set4 _ Y t0 t1 t2 t3).mono (T := fun b => SX S B0 B1 b ∨ b = X ∨ b = Y) (fun j _ e => .inr (.inr e))) (fun _ h _ => h)) (S' := SX S B0 B1) (fun b hb => .inl (.inl hb))
  exact h2

set_option maxRecDepth 100000 in
set_option maxHeartbeats 4000000 in
theorem made_any (V M : Nat) (hV1 : 1 ≤ V) (hV9 : V < 10) (hM1 : 16 ≤ M) (hM2 : M ≤ 1048576) (v : Value) (l : List A9v) (w : World) (h : IsA w v l) (hl : l.length ≤ 60) (hd : ∀ x ∈ l, x.1.n.data.length ≤ 300) (hf : ∀ x ∈ l, x.1.n.fits) :
    Calls Tryz.prog 11 #[.int .i64 (V : Int), .int .i64 (M : Int), v] w fun e w' => ∃ g p S d k s lv dv ps, e = .returned (.tuple #[.pointer (some ⟨g, 0, none⟩), dval s lv dv, .bool true]) ∧ Vready w' g p S d k s ∧ DocP w' S s lv dv ps ∧ Below w.heap.size w w' ∧ (∀ b, S b → w.heap.size ≤ b) ∧ MadeF V M d k l.length s (l.map (·.1)) := by
  have hlen := fun W => len_X (P := Tryz.prog) h.1 22 3 _ Tryz.underlying22 W
  obtain ⟨N, hN⟩ : ∃ N, l.length = N := ⟨_, rfl⟩
  rw [hN] at hlen hl ⊢
  have HH := Lib.hid h
  have HN := Lib.hid hN
  have HL := Lib.hid hd
  have HF := Lib.hid hf
  clear h hN hd hf
  have HK1 := Lib.hid (new_u 1048576 (w.alloc (.cells #[.int .i64 0, .int .i64 0, .int .i64 0, .int .i64 0, .bool false, .slice none 0 0, .slice none 0 0] 30)) (by decide))
  go_enter Tryz.func11, Tryz.ntmps11
  go_wp2_with fail
  refine HK1.out.mono ?_
  rintro e w2 ⟨p, rfl, hdk, hp, hb2⟩
  have HMK := Lib.hid (make_v V M 0 p 0 _ _ w2 hdk (by decide) (fs_new _ (by decide)) hV1 hV9 hM1 (by omega) (by decide) (view_new _ _) (view_new _ _) (view_new _ _) (by decide) (by decide))
  have HP := Lib.hid hp
  have HB2 := Lib.hid hb2
  clear hdk hp hb2 HK1
  go_wp2_with fail
  refine HMK.out.mono ?_
  rintro e w3 ⟨g, rfl, hm⟩
  have HM := Lib.hid hm
  clear hm HMK
  go_wp2_with fail
  refine (new_r V M 0 w3).mono ?_
  rintro e w4 ⟨rfl, hb4⟩
  obtain ⟨S0, d0, hI0⟩ := MadeJ.start HP.out HB2.out HM.out hb4
  have HI0 := Lib.hid hI0
  clear hI0 hb4 HP HB2 HM
  go_wp2_with fail
  refine (code_any 0 _ (by decide)).mono ?_
  rintro e w5 ⟨rfl, rfl⟩
  obtain ⟨w5, hw5⟩ : ∃ w5, w4.alloc (.cells #[.int .i64 (V : Int), .int .i64 (M : Int), .int .i64 0, .int .i64 16, .bool false, .slice none 0 0, .slice none 0 0] 30) = w5 := ⟨_, rfl⟩
  obtain ⟨B1, hB1⟩ : ∃ B1, w4.heap.size = B1 := ⟨_, rfl⟩
  rw [hw5, hB1] at HI0
  rw [hw5, hB1]
  clear hw5 hB1
  go_wp2_with fail
  go_loopw [14, 15] (fun kb c wr => ∃ (i kk : Nat) (S : Nat → Prop) (d : Dsk) (s : Vst) (lx : Option Addr) (lc : Nat) (dx : Option Addr) (dc : Nat) (ps : List (Ndl × Value)), i ≤ N ∧ kb = .bool true ∧ c = .int .i64 (i : Int) ∧ Hid (MadeJ V M w wr g p w.heap.size B1 S d kk i s (.slice lx s.idx.length lc) (.slice dx ps.length dc) ps ((l.take i).map (·.1)))) (fun _ c _ => (N - intOf c).toNat)
  case atStart => exact ⟨0, 16, S0, d0, vst0 V M 0, none, 0, none, 0, [], Nat.zero_le _, rfl, rfl, HI0⟩
  case round =>
    clear HI0
    obtain ⟨i, kk, S, d, s, lx, lc, dx, dc, ps, hiN, rfl, rfl, HI⟩ := hrel
    obtain ⟨I, hI⟩ : ∃ I, s.idx.length = I := ⟨_, rfl⟩
    obtain ⟨PN, hPN⟩ : ∃ PN, ps.length = PN := ⟨_, rfl⟩
    rw [hI, hPN] at HI
    clear hI hPN
    by_cases hi : i < N
    · obtain ⟨x, hx⟩ : ∃ x, l[i]? = some x := ⟨_, List.getElem?_eq_getElem (by rw [HN.out]; exact hi)⟩
      have hmem := List.mem_of_getElem? hx
      obtain ⟨b, o, hidx, a0, a1, a2, a3, a4, a5⟩ := act_at (HH.out.mono HI.out.bel (Nat.le_refl _)) hx
      have hxd := HL.out x hmem
      have hxf := HF.out x hmem
      have hxB := (HH.out.2 x hmem).1
      obtain ⟨⟨kd, m, ⟨key, cookie, gone, data⟩⟩, xv⟩ := x
      obtain ⟨xL, hxL⟩ : ∃ xL, data.length = xL := ⟨_, rfl⟩
      obtain ⟨xa, xc, hxv, _, _⟩ := hxB.at_len hxL
      dsimp only at a0 a1 a2 a3 a4 a5 hxd hxf hxB hxv
      subst hxv
      obtain ⟨q, hq⟩ : ∃ q, (actV s ⟨kd, m, ⟨key, cookie, gone, data⟩⟩).2 = q := ⟨_, rfl⟩
      obtain ⟨s1, hs1⟩ : ∃ s1, (actV s ⟨kd, m, ⟨key, cookie, gone, data⟩⟩).1 = s1 := ⟨_, rfl⟩
      have HDR := Lib.hid (fun wx (hb : Below wr.heap.size wr wx) => show Calls Tryz.prog 30 _ wx (DoR wx (SY S w.heap.size B1 wr wx) s1 q) by
        rw [← hq, ← hs1]; exact HI.out.doR (by omega) ⟨kd, m, ⟨key, cookie, gone, data⟩⟩ hxB hxd hb)
      have HDV := Lib.hid (fun wx (hb : Below wr.heap.size wr wx) => show Calls Tryz.prog 31 _ wx (DovT wx g p S d s (kk + 10) s1 q) by
        rw [← hq, ← hs1]; exact HI.out.doV (by omega) ⟨kd, m, ⟨key, cookie, gone, data⟩⟩ hxB hxd hxf hb)
      have HSTEP := Lib.hid (fun (wa wb : World) (X : Nat) (lv1 dv1 : Value) (ps1 : List (Ndl × Value)) => HI.out.step (wa := wa) (wb := wb) (X := X) (lv1 := lv1) (dv1 := dv1) (ps1 := ps1) (by omega) ⟨kd, m, ⟨key, cookie, gone, data⟩⟩ hxd hs1)
      have HA := Lib.hid (show ∀ wx, Below wr.heap.size wr wx → wx.cell? ⟨b, o, none⟩ = some (.int .i64 kd) ∧ wx.cell? ⟨b, o + 1, none⟩ = some (.int .i64 m) ∧ wx.cell? ⟨b, o + 2, none⟩ = some (.int .u64 (key : Int)) ∧ wx.cell? ⟨b, o + 3, none⟩ = some (.int .u32 (cookie : Int)) ∧ wx.cell? ⟨b, o + 4, none⟩ = some (.bool gone) ∧ wx.cell? ⟨b, o + 5, none⟩ = some (.slice xa xL xc) from fun wx hb => by
        have hk := Kept.of_below (S := fun _ => False) hb (Nat.le_refl _)
        exact ⟨hk.cell a0 (fun h => h), hk.cell a1 (fun h => h), hk.cell a2 (fun h => h), hk.cell a3 (fun h => h), hk.cell a4 (fun h => h), hk.cell a5 (fun h => h)⟩)
      have HV := Lib.hid HI.out.v
      have e1 : IntKind.i64.wrap ((i : Int) + 1) = (i : Int) + 1 := IntWalk.i64_in _ (by omega)
      clear a0 a1 a2 a3 a4 a5 hq hs1 hxB hxd hxf hmem hxL
      have HX := Lib.hid hx
      clear hx
      go_upto_region 8 with fail
      go_cut [16, 17, 18, 19] from 46 to 56 (fun x13 _ _ x16 wx => ∃ (X : Nat) (l1 : Option Addr) (I1 c1 : Nat) (d1 : Option Addr) (N1 e1 : Nat) (ps1 : List (Ndl × Value)), x13 = .pointer (some ⟨X, 0, none⟩) ∧ x16 = .int .i64 (q : Int) ∧ I1 = s1.idx.length ∧ N1 = ps1.length ∧ wr.heap.size ≤ X ∧ Hid (Below wr.heap.size wr wx) ∧ Hid (DocP wx (SX S w.heap.size B1) s1 (.slice l1 I1 c1) (.slice d1 N1 e1) ps1) ∧ Hid (Blk wx X #[.int .i64 (s1.num : Int), .int .i64 (s1.most : Int), .int .i64 (s1.epoch : Int), .int .i64 (s1.size : Int), .bool s1.shut, .slice l1 I1 c1, .slice d1 N1 e1] 30))
      case first =>
        have HS8 := Lib.hid (show ∀ wx, Below wr.heap.size wr wx → (fun wx => (wx.cell? ⟨B1, 0, none⟩ = some (.int .i64 (s.num : Int)) ∧ wx.cell? ⟨B1, 1, none⟩ = some (.int .i64 (s.most : Int)) ∧ wx.cell? ⟨B1, 2, none⟩ = some (.int .i64 (s.epoch : Int)) ∧ wx.cell? ⟨B1, 3, none⟩ = some (.int .i64 (s.size : Int)) ∧ wx.cell? ⟨B1, 4, none⟩ = some (.bool s.shut) ∧ wx.cell? ⟨B1, 5, none⟩ = some (.slice lx I lc) ∧ wx.cell? ⟨B1, 6, none⟩ = some (.slice dx PN dc)) ∧ wx.cell? ⟨b, o, none⟩ = some (.int .i64 kd) ∧ wx.cell? ⟨b, o + 1, none⟩ = some (.int .i64 m) ∧ wx.cell? ⟨b, o + 2, none⟩ = some (.int .u64 (key : Int)) ∧ wx.cell? ⟨b, o + 3, none⟩ = some (.int .u32 (cookie : Int)) ∧ wx.cell? ⟨b, o + 4, none⟩ = some (.bool gone) ∧ wx.cell? ⟨b, o + 5, none⟩ = some (.slice xa xL xc)) wx from fun wx hb => by
          have hv := HV.out.below hb HV.out.lt
          exact ⟨⟨hv.cell 0 rfl, hv.cell 1 rfl, hv.cell 2 rfl, hv.cell 3 rfl, hv.cell 4 rfl, hv.cell 5 rfl, hv.cell 6 rfl⟩, HA.out wx hb⟩)
        have HQ0 := Lib.hid ((Below.refl wr.heap.size wr).drew)
        refine AnyE.start (S := (fun wx => (wx.cell? ⟨B1, 0, none⟩ = some (.int .i64 (s.num : Int)) ∧ wx.cell? ⟨B1, 1, none⟩ = some (.int .i64 (s.most : Int)) ∧ wx.cell? ⟨B1, 2, none⟩ = some (.int .i64 (s.epoch : Int)) ∧ wx.cell? ⟨B1, 3, none⟩ = some (.int .i64 (s.size : Int)) ∧ wx.cell? ⟨B1, 4, none⟩ = some (.bool s.shut) ∧ wx.cell? ⟨B1, 5, none⟩ = some (.slice lx I lc) ∧ wx.cell? ⟨B1, 6, none⟩ = some (.slice dx PN dc)) ∧ wx.cell? ⟨b, o, none⟩ = some (.int .i64 kd) ∧ wx.cell? ⟨b, o + 1, none⟩ = some (.int .i64 m) ∧ wx.cell? ⟨b, o + 2, none⟩ = some (.int .u64 (key : Int)) ∧ wx.cell? ⟨b, o + 3, none⟩ = some (.int .u32 (cookie : Int)) ∧ wx.cell? ⟨b, o + 4, none⟩ = some (.bool gone) ∧ wx.cell? ⟨b, o + 5, none⟩ = some (.slice xa xL xc))) 16 (by kernel_rfl) (HS8.out _ HQ0.out) (fun hHeld => ?_)
        obtain ⟨q0, hq0⟩ : ∃ q0, wr.drew = q0 := ⟨_, rfl⟩
        rw [hq0] at HQ0 hHeld
        rw [hq0]
        clear hq0
        refine AnyE.take (i := 0) (v := ?_) rfl (by kernel_rfl) (by kernel_rfl) (by kernel_rfl) (by kernel_rfl) (fun _ _ _ h => h) (Or.inl ⟨by rfl, ?_⟩) (by assumption) ?_
        rotate_left 1
        · intro w hSw
          (try dsimp only at hSw)
          go_simp
          all_goals (with_reducible rfl)
        try simp only [Act.put, List.getElem_toArray, List.getElem_cons_zero, List.getElem_cons_succ, List.setIfInBounds_toArray, List.set_cons_zero, List.set_cons_succ]
        refine AnyE.take (i := 1) (v := ?_) rfl (by kernel_rfl) (by kernel_rfl) (by kernel_rfl) (by kernel_rfl) (fun _ _ _ h => h) (Or.inl ⟨by rfl, ?_⟩) (by assumption) ?_
        rotate_left 1
        · intro w hSw
          (try dsimp only at hSw)
          go_simp
          all_goals (with_reducible rfl)
        try simp only [Act.put, List.getElem_toArray, List.getElem_cons_zero, List.getElem_cons_succ, List.setIfInBounds_toArray, List.set_cons_zero, List.set_cons_succ]
        refine AnyE.take (i := 2) (v := ?_) rfl (by kernel_rfl) (by kernel_rfl) (by kernel_rfl) (by kernel_rfl) (fun _ _ _ h => h) (Or.inl ⟨by rfl, ?_⟩) (by assumption) ?_
        rotate_left 1
        · intro w hSw
          (try dsimp only at hSw)
          go_simp
          all_goals (with_reducible rfl)
        try simp only [Act.put, List.getElem_toArray, List.getElem_cons_zero, List.getElem_cons_succ, List.setIfInBounds_toArray, List.set_cons_zero, List.set_cons_succ]
        refine AnyE.take (i := 3) (v := ?_) rfl (by kernel_rfl) (by kernel_rfl) (by kernel_rfl) (by kernel_rfl) (fun _ _ _ h => h) (Or.inl ⟨by rfl, ?_⟩) (by assumption) ?_
        rotate_left 1
        · intro w hSw
          (try dsimp only at hSw)
          go_simp
          all_goals (with_reducible rfl)
        try simp only [Act.put, List.getElem_toArray, List.getElem_cons_zero, List.getElem_cons_succ, List.setIfInBounds_toArray, List.set_cons_zero, List.set_cons_succ]
        refine AnyE.take (i := 4) (v := ?_) rfl (by kernel_rfl) (by kernel_rfl) (by kernel_rfl) (by kernel_rfl) (fun _ _ _ h => h) (Or.inl ⟨by rfl, ?_⟩) (by assumption) ?_
        rotate_left 1
        · intro w hSw
          (try dsimp only at hSw)
          go_simp
          all_goals (with_reducible rfl)
        try simp only [Act.put, List.getElem_toArray, List.getElem_cons_zero, List.getElem_cons_succ, List.setIfInBounds_toArray, List.set_cons_zero, List.set_cons_succ]
        refine AnyE.next (rs := [5, 11, 12]) (by kernel_rfl) (by simp) ?_
        refine AllE.cons rfl (fun K hK => ?_) ?_
        · go_simp
          refine (HDR.out _ HQ0.out).mono ?_
          rintro e q1 ⟨lv1, dv1, ps1, nk, nc, ng, nx, nL, ncap, kv, rfl, hd, hb⟩
          obtain ⟨l1, c1, rfl, _, _⟩ := IsX.slice hd.l
          obtain ⟨d1, e1, rfl, _, _⟩ := IsX.slice hd.d.1
          have HQ1 := Lib.hid (HQ0.out.trans (hb.mono HQ0.out.size))
          refine hK.out _ _ (HS8.out _ HQ1.out) (fun hHeld => ?_)
          have HD := Lib.hid hd
          have HDB := Lib.hid (Below.refl q1.heap.size q1)
          clear hK K hd hb
          try simp only [Act.put, List.getElem_toArray, List.getElem_cons_zero, List.getElem_cons_succ, List.setIfInBounds_toArray, List.set_cons_zero, List.set_cons_succ]
          refine AnyE.take (i := 6) (v := ?_) rfl (by kernel_rfl) (by kernel_rfl) (by kernel_rfl) (by kernel_rfl) (fun _ _ _ h => h) (Or.inl ⟨by rfl, ?_⟩) (by assumption) ?_
          rotate_left 1
          · intro w hSw
            (try dsimp only at hSw)
            go_simp
            all_goals (with_reducible rfl)
          try simp only [Act.put, List.getElem_toArray, List.getElem_cons_zero, List.getElem_cons_succ, List.setIfInBounds_toArray, List.set_cons_zero, List.set_cons_succ]
          refine AnyE.take (i := 7) (v := ?_) rfl (by kernel_rfl) (by kernel_rfl) (by kernel_rfl) (by kernel_rfl) (fun _ _ _ h => h) (Or.inl ⟨by rfl, ?_⟩) (by assumption) ?_
          rotate_left 1
          · intro w hSw
            (try dsimp only at hSw)
            go_simp
            all_goals (with_reducible rfl)
          try simp only [Act.put, List.getElem_toArray, List.getElem_cons_zero, List.getElem_cons_succ, List.setIfInBounds_toArray, List.set_cons_zero, List.set_cons_succ]
          refine AnyE.take (i := 8) (v := ?_) rfl (by kernel_rfl) (by kernel_rfl) (by kernel_rfl) (by kernel_rfl) (fun _ _ _ h => h) (Or.inl ⟨by rfl, ?_⟩) (by assumption) ?_
          rotate_left 1
          · intro w hSw
            (try dsimp only at hSw)
            go_simp
            all_goals (with_reducible rfl)
          try simp only [Act.put, List.getElem_toArray, List.getElem_cons_zero, List.getElem_cons_succ, List.setIfInBounds_toArray, List.set_cons_zero, List.set_cons_succ]
          refine AnyE.take (i := 9) (v := ?_) rfl (by kernel_rfl) (by kernel_rfl) (by kernel_rfl) (by kernel_rfl) (fun _ _ _ h => h) (Or.inl ⟨by rfl, ?_⟩) (by assumption) ?_
          rotate_left 1
          · intro w hSw
            (try dsimp only at hSw)
            go_simp
            all_goals (with_reducible rfl)
          try simp only [Act.put, List.getElem_toArray, List.getElem_cons_zero, List.getElem_cons_succ, List.setIfInBounds_toArray, List.set_cons_zero, List.set_cons_succ]
          refine AnyE.take (i := 10) (v := ?_) rfl (by kernel_rfl) (by kernel_rfl) (by kernel_rfl) (by kernel_rfl) (fun _ _ _ h => h) (Or.inl ⟨by rfl, ?_⟩) (by assumption) ?_
          rotate_left 1
          · intro w hSw
            (try dsimp only at hSw)
            go_simp
            all_goals (with_reducible rfl)
          try simp only [Act.put, List.getElem_toArray, List.getElem_cons_zero, List.getElem_cons_succ, List.setIfInBounds_toArray, List.set_cons_zero, List.set_cons_succ]
          refine AnyE.next (rs := [11, 12]) (by kernel_rfl) (by simp) ?_
          refine AllE.cons rfl (fun K hK => ?_) ?_
          · go_simp
            refine hK.out _ _ (HS8.out _ (HQ1.out.alloc HQ1.out.size (.cells #[.int .i64 0, .int .i64 0, .int .i64 0, .int .i64 0, .bool false, .slice none 0 0, .slice none 0 0] 30))) (fun hHeld => ?_)
            have HQ2 := Lib.hid (HQ1.out.alloc HQ1.out.size (.cells #[.int .i64 0, .int .i64 0, .int .i64 0, .int .i64 0, .bool false, .slice none 0 0, .slice none 0 0] 30))
            have HX2 := Lib.hid (Blk.new q1 #[.int .i64 0, .int .i64 0, .int .i64 0, .int .i64 0, .bool false, .slice none 0 0, .slice none 0 0] 30)
            have GX := Lib.hid HQ1.out.size
            have HDB2 := Lib.hid (HDB.out.alloc HDB.out.size (.cells #[.int .i64 0, .int .i64 0, .int .i64 0, .int .i64 0, .bool false, .slice none 0 0, .slice none 0 0] 30))
            have LX := Lib.hid (show (wr.heap.size ≤ q1.heap.size ∧ q1.heap.size < q0.heap.size) ∨ q1.heap.size ≤ q1.heap.size from .inr HDB.out.size)
            obtain ⟨q2, hq2⟩ : ∃ q2, q1.alloc (.cells #[.int .i64 0, .int .i64 0, .int .i64 0, .int .i64 0, .bool false, .slice none 0 0, .slice none 0 0] 30) = q2 := ⟨_, rfl⟩
            rw [hq2] at HQ2 HX2 HDB2 hHeld
            rw [hq2]
            clear hK K hq2
            try simp only [Act.put, List.getElem_toArray, List.getElem_cons_zero, List.getElem_cons_succ, List.setIfInBounds_toArray, List.set_cons_zero, List.set_cons_succ]
            refine AnyE.next (rs := [12]) (by kernel_rfl) (by simp) ?_
            refine AllE.cons rfl (fun K hK => ?_) AllE.nil
            go_simp
            refine hK.out _ _ (HS8.out _ (HQ2.out.alloc HQ2.out.size (.cells #[.int .u64 0, .int .u32 0, .bool false, .slice none 0 0] 47))) (fun hHeld => ?_)
            have HQ3 := Lib.hid (HQ2.out.alloc HQ2.out.size (.cells #[.int .u64 0, .int .u32 0, .bool false, .slice none 0 0] 47))
            have HY3 := Lib.hid (Blk.new q2 #[.int .u64 0, .int .u32 0, .bool false, .slice none 0 0] 47)
            have GY := Lib.hid HQ2.out.size
            have HX3b := Lib.hid (HX2.out.alloc (.cells #[.int .u64 0, .int .u32 0, .bool false, .slice none 0 0] 47))
            have HDB3 := Lib.hid (HDB2.out.alloc HDB2.out.size (.cells #[.int .u64 0, .int .u32 0, .bool false, .slice none 0 0] 47))
            have LY := Lib.hid (show (wr.heap.size ≤ q2.heap.size ∧ q2.heap.size < q0.heap.size) ∨ q1.heap.size ≤ q2.heap.size from .inr HDB2.out.size)
            obtain ⟨q3, hq3⟩ : ∃ q3, q2.alloc (.cells #[.int .u64 0, .int .u32 0, .bool false, .slice none 0 0] 47) = q3 := ⟨_, rfl⟩
            rw [hq3] at HQ3 HX3b HY3 HDB3 hHeld
            rw [hq3]
            clear hK K hq3
            try simp only [Act.put, List.getElem_toArray, List.getElem_cons_zero, List.getElem_cons_succ, List.setIfInBounds_toArray, List.set_cons_zero, List.set_cons_succ]
            have hXY : q1.heap.size ≠ q2.heap.size := fun e => by
              have h1 := HX3b.out
              have h2 := HY3.out
              rw [e] at h1
              have h3 := h1.symm.trans h2
              simp at h3
            have XX2 := Lib.hid (blk_set7 HX3b.out (.int .i64 (s1.num : Int)) (.int .i64 (s1.most : Int)) (.int .i64 (s1.epoch : Int)) (.int .i64 (s1.size : Int)) (.bool s1.shut) (.slice l1 s1.idx.length c1) (.slice d1 ps1.length e1))
            have XY2 := Lib.hid (HY3.out.other7 hXY (.int .i64 (s1.num : Int)) (.int .i64 (s1.most : Int)) (.int .i64 (s1.epoch : Int)) (.int .i64 (s1.size : Int)) (.bool s1.shut) (.slice l1 s1.idx.length c1) (.slice d1 ps1.length e1))
            have XX3 := Lib.hid (XX2.out.other4 (fun e => hXY e.symm) (.int .u64 nk) (.int .u32 nc) (.bool ng) (.slice nx nL ncap))
            have XB2 := Lib.hid (below_set7 (g := q1.heap.size) (u0 := .int .i64 (s1.num : Int)) (u1 := .int .i64 (s1.most : Int)) (u2 := .int .i64 (s1.epoch : Int)) (u3 := .int .i64 (s1.size : Int)) (u4 := .bool s1.shut) (u5 := .slice l1 s1.idx.length c1) (u6 := .slice d1 ps1.length e1) HQ3.out GX.out)
            have XB3 := Lib.hid (below_set4 (g := q2.heap.size) (u0 := .int .u64 nk) (u1 := .int .u32 nc) (u2 := .bool ng) (u3 := .slice nx nL ncap) XB2.out GY.out)
            have XD3 := Lib.hid (HI.out.docX HD.out HDB3.out LX.out LY.out (.int .i64 (s1.num : Int)) (.int .i64 (s1.most : Int)) (.int .i64 (s1.epoch : Int)) (.int .i64 (s1.size : Int)) (.bool s1.shut) (.slice l1 s1.idx.length c1) (.slice d1 ps1.length e1) (.int .u64 nk) (.int .u32 nc) (.bool ng) (.slice nx nL ncap))
            clear hXY
            have z0 := HX3b.out.cell 0 rfl
            have z1 := HX3b.out.cell 1 rfl
            have z2 := HX3b.out.cell 2 rfl
            have z3 := HX3b.out.cell 3 rfl
            have z4 := HX3b.out.cell 4 rfl
            have z5 := HX3b.out.cell 5 rfl
            have z6 := HX3b.out.cell 6 rfl
            have zf := fun j => HX3b.out.free j
            have r0 := XY2.out.cell 0 rfl
            have r1 := XY2.out.cell 1 rfl
            have r2 := XY2.out.cell 2 rfl
            have r3 := XY2.out.cell 3 rfl
            have rf := fun j => XY2.out.free j
            unfold set7 at XX2 XY2 XX3 XB2 XB3 XD3 r0 r1 r2 r3 rf
            unfold set4 at XX3 XB3 XD3
            refine AnyE.next (rs := [13]) (by kernel_rfl) (by simp) ?_
            refine AllE.cons rfl (fun K hK => ?_) AllE.nil
            go_simp
            refine hK.out _ _ (HS8.out _ XB2.out) (fun hHeld => ?_)
            clear hK K
            try simp only [Act.put, List.getElem_toArray, List.getElem_cons_zero, List.getElem_cons_succ, List.setIfInBounds_toArray, List.set_cons_zero, List.set_cons_succ]
            refine AnyE.next (rs := [14]) (by kernel_rfl) (by simp) ?_
            refine AllE.cons rfl (fun K hK => ?_) AllE.nil
            go_simp
            refine hK.out _ _ (HS8.out _ XB3.out) (fun hHeld => ?_)
            clear hK K
            try simp only [Act.put, List.getElem_toArray, List.getElem_cons_zero, List.getElem_cons_succ, List.setIfInBounds_toArray, List.set_cons_zero, List.set_cons_succ]
            clear z0 z1 z2 z3 z4 z5 z6 zf r0 r1 r2 r3 rf
            refine AnyE.take (i := 15) (v := ?_) rfl (by kernel_rfl) (by kernel_rfl) (by kernel_rfl) (by kernel_rfl) (fun _ _ _ h => h) (Or.inl ⟨by rfl, ?_⟩) (by assumption) ?_
            rotate_left 1
            · intro w hSw
              (try dsimp only at hSw)
              go_simp
              all_goals (with_reducible rfl)
            try simp only [Act.put, List.getElem_toArray, List.getElem_cons_zero, List.getElem_cons_succ, List.setIfInBounds_toArray, List.set_cons_zero, List.set_cons_succ]
            refine AnyE.next (rs := [16]) (by kernel_rfl) (by simp) ?_
            refine AllE.last rfl (fun K hK => ?_)
            go_simp
            refine hK.out _ _ ?_
            clear hK K
            try simp only [Act.put, List.getElem_toArray, List.getElem_cons_zero, List.getElem_cons_succ, List.setIfInBounds_toArray, List.set_cons_zero, List.set_cons_succ]
            refine AnyE.done (by kernel_rfl) ?_ _
            go_wp2_with fail
            go_meet
            exact ⟨q1.heap.size, l1, s1.idx.length, c1, d1, ps1.length, e1, ps1, by first | exact rfl | exact trivial, by first | exact rfl | exact trivial, rfl, rfl, GX.out, XB3, XD3, XX3⟩
          refine AllE.cons rfl (fun K hK => ?_) AllE.nil
          go_simp
          refine hK.out _ _ (HS8.out _ (HQ1.out.alloc HQ1.out.size (.cells #[.int .u64 0, .int .u32 0, .bool false, .slice none 0 0] 47))) (fun hHeld => ?_)
          have HQ4 := Lib.hid (HQ1.out.alloc HQ1.out.size (.cells #[.int .u64 0, .int .u32 0, .bool false, .slice none 0 0] 47))
          have HY4 := Lib.hid (Blk.new q1 #[.int .u64 0, .int .u32 0, .bool false, .slice none 0 0] 47)
          have GY := Lib.hid HQ1.out.size
          have HDB4 := Lib.hid (HDB.out.alloc HDB.out.size (.cells #[.int .u64 0, .int .u32 0, .bool false, .slice none 0 0] 47))
          have LY := Lib.hid (show (wr.heap.size ≤ q1.heap.size ∧ q1.heap.size < q0.heap.size) ∨ q1.heap.size ≤ q1.heap.size from .inr HDB.out.size)
          obtain ⟨q4, hq4⟩ : ∃ q4, q1.alloc (.cells #[.int .u64 0, .int .u32 0, .bool false, .slice none 0 0] 47) = q4 := ⟨_, rfl⟩
          rw [hq4] at HQ4 HY4 HDB4 hHeld
          rw [hq4]
          clear hK K hq4
          try simp only [Act.put, List.getElem_toArray, List.getElem_cons_zero, List.getElem_cons_succ, List.setIfInBounds_toArray, List.set_cons_zero, List.set_cons_succ]
          refine AnyE.next (rs := [11]) (by kernel_rfl) (by simp) ?_
          refine AllE.cons rfl (fun K hK => ?_) AllE.nil
          go_simp
          refine hK.out _ _ (HS8.out _ (HQ4.out.alloc HQ4.out.size (.cells #[.int .i64 0, .int .i64 0, .int .i64 0, .int .i64 0, .bool false, .slice none 0 0, .slice none 0 0] 30))) (fun hHeld => ?_)
          have HQ5 := Lib.hid (HQ4.out.alloc HQ4.out.size (.cells #[.int .i64 0, .int .i64 0, .int .i64 0, .int .i64 0, .bool false, .slice none 0 0, .slice none 0 0] 30))
          have HX5 := Lib.hid (Blk.new q4 #[.int .i64 0, .int .i64 0, .int .i64 0, .int .i64 0, .bool false, .slice none 0 0, .slice none 0 0] 30)
          have GX := Lib.hid HQ4.out.size
          have HY5b := Lib.hid (HY4.out.alloc (.cells #[.int .i64 0, .int .i64 0, .int .i64 0, .int .i64 0, .bool false, .slice none 0 0, .slice none 0 0] 30))
          have HDB5 := Lib.hid (HDB4.out.alloc HDB4.out.size (.cells #[.int .i64 0, .int .i64 0, .int .i64 0, .int .i64 0, .bool false, .slice none 0 0, .slice none 0 0] 30))
          have LX := Lib.hid (show (wr.heap.size ≤ q4.heap.size ∧ q4.heap.size < q0.heap.size) ∨ q1.heap.size ≤ q4.heap.size from .inr HDB4.out.size)
          obtain ⟨q5, hq5⟩ : ∃ q5, q4.alloc (.cells #[.int .i64 0, .int .i64 0, .int .i64 0, .int .i64 0, .bool false, .slice none 0 0, .slice none 0 0] 30) = q5 := ⟨_, rfl⟩
          rw [hq5] at HQ5 HX5 HY5b HDB5 hHeld
          rw [hq5]
          clear hK K hq5
          try simp only [Act.put, List.getElem_toArray, List.getElem_cons_zero, List.getElem_cons_succ, List.setIfInBounds_toArray, List.set_cons_zero, List.set_cons_succ]
          have hXY : q4.heap.size ≠ q1.heap.size := fun e => by
            have h1 := HX5.out
            have h2 := HY5b.out
            rw [e] at h1
            have h3 := h1.symm.trans h2
            simp at h3
          have XX2 := Lib.hid (blk_set7 HX5.out (.int .i64 (s1.num : Int)) (.int .i64 (s1.most : Int)) (.int .i64 (s1.epoch : Int)) (.int .i64 (s1.size : Int)) (.bool s1.shut) (.slice l1 s1.idx.length c1) (.slice d1 ps1.length e1))
          have XY2 := Lib.hid (HY5b.out.other7 hXY (.int .i64 (s1.num : Int)) (.int .i64 (s1.most : Int)) (.int .i64 (s1.epoch : Int)) (.int .i64 (s1.size : Int)) (.bool s1.shut) (.slice l1 s1.idx.length c1) (.slice d1 ps1.length e1))
          have XX3 := Lib.hid (XX2.out.other4 (fun e => hXY e.symm) (.int .u64 nk) (.int .u32 nc) (.bool ng) (.slice nx nL ncap))
          have XB2 := Lib.hid (below_set7 (g := q4.heap.size) (u0 := .int .i64 (s1.num : Int)) (u1 := .int .i64 (s1.most : Int)) (u2 := .int .i64 (s1.epoch : Int)) (u3 := .int .i64 (s1.size : Int)) (u4 := .bool s1.shut) (u5 := .slice l1 s1.idx.length c1) (u6 := .slice d1 ps1.length e1) HQ5.out GX.out)
          have XB3 := Lib.hid (below_set4 (g := q1.heap.size) (u0 := .int .u64 nk) (u1 := .int .u32 nc) (u2 := .bool ng) (u3 := .slice nx nL ncap) XB2.out GY.out)
          have XD3 := Lib.hid (HI.out.docX HD.out HDB5.out LX.out LY.out (.int .i64 (s1.num : Int)) (.int .i64 (s1.most : Int)) (.int .i64 (s1.epoch : Int)) (.int .i64 (s1.size : Int)) (.bool s1.shut) (.slice l1 s1.idx.length c1) (.slice d1 ps1.length e1) (.int .u64 nk) (.int .u32 nc) (.bool ng) (.slice nx nL ncap))
          clear hXY
          have z0 := HX5.out.cell 0 rfl
          have z1 := HX5.out.cell 1 rfl
          have z2 := HX5.out.cell 2 rfl
          have z3 := HX5.out.cell 3 rfl
          have z4 := HX5.out.cell 4 rfl
          have z5 := HX5.out.cell 5 rfl
          have z6 := HX5.out.cell 6 rfl
          have zf := fun j => HX5.out.free j
          have r0 := XY2.out.cell 0 rfl
          have r1 := XY2.out.cell 1 rfl
          have r2 := XY2.out.cell 2 rfl
          have r3 := XY2.out.cell 3 rfl
          have rf := fun j => XY2.out.free j
          unfold set7 at XX2 XY2 XX3 XB2 XB3 XD3 r0 r1 r2 r3 rf
          unfold set4 at XX3 XB3 XD3
          refine AnyE.next (rs := [13]) (by kernel_rfl) (by simp) ?_
          refine AllE.cons rfl (fun K hK => ?_) AllE.nil
          go_simp
          refine hK.out _ _ (HS8.out _ XB2.out) (fun hHeld => ?_)
          clear hK K
          try simp only [Act.put, List.getElem_toArray, List.getElem_cons_zero, List.getElem_cons_succ, List.setIfInBounds_toArray, List.set_cons_zero, List.set_cons_succ]
          refine AnyE.next (rs := [14]) (by kernel_rfl) (by simp) ?_
          refine AllE.cons rfl (fun K hK => ?_) AllE.nil
          go_simp
          refine hK.out _ _ (HS8.out _ XB3.out) (fun hHeld => ?_)
          clear hK K
          try simp only [Act.put, List.getElem_toArray, List.getElem_cons_zero, List.getElem_cons_succ, List.setIfInBounds_toArray, List.set_cons_zero, List.set_cons_succ]
          clear z0 z1 z2 z3 z4 z5 z6 zf r0 r1 r2 r3 rf
          refine AnyE.take (i := 15) (v := ?_) rfl (by kernel_rfl) (by kernel_rfl) (by kernel_rfl) (by kernel_rfl) (fun _ _ _ h => h) (Or.inl ⟨by rfl, ?_⟩) (by assumption) ?_
          rotate_left 1
          · intro w hSw
            (try dsimp only at hSw)
            go_simp
            all_goals (with_reducible rfl)
          try simp only [Act.put, List.getElem_toArray, List.getElem_cons_zero, List.getElem_cons_succ, List.setIfInBounds_toArray, List.set_cons_zero, List.set_cons_succ]
          refine AnyE.next (rs := [16]) (by kernel_rfl) (by simp) ?_
          refine AllE.last rfl (fun K hK => ?_)
          go_simp
          refine hK.out _ _ ?_
          clear hK K
          try simp only [Act.put, List.getElem_toArray, List.getElem_cons_zero, List.getElem_cons_succ, List.setIfInBounds_toArray, List.set_cons_zero, List.set_cons_succ]
          refine AnyE.done (by kernel_rfl) ?_ _
          go_wp2_with fail
          go_meet
          exact ⟨q4.heap.size, l1, s1.idx.length, c1, d1, ps1.length, e1, ps1, by first | exact rfl | exact trivial, by first | exact rfl | exact trivial, rfl, rfl, GX.out, XB3, XD3, XX3⟩
        refine AllE.cons rfl (fun K hK => ?_) ?_
        · go_simp
          refine hK.out _ _ (HS8.out _ (HQ0.out.alloc HQ0.out.size (.cells #[.int .i64 0, .int .i64 0, .int .i64 0, .int .i64 0, .bool false, .slice none 0 0, .slice none 0 0] 30))) (fun hHeld => ?_)
          have HQ6 := Lib.hid (HQ0.out.alloc HQ0.out.size (.cells #[.int .i64 0, .int .i64 0, .int .i64 0, .int .i64 0, .bool false, .slice none 0 0, .slice none 0 0] 30))
          have HX6 := Lib.hid (Blk.new q0 #[.int .i64 0, .int .i64 0, .int .i64 0, .int .i64 0, .bool false, .slice none 0 0, .slice none 0 0] 30)
          have GX := Lib.hid HQ0.out.size
          obtain ⟨q6, hq6⟩ : ∃ q6, q0.alloc (.cells #[.int .i64 0, .int .i64 0, .int .i64 0, .int .i64 0, .bool false, .slice none 0 0, .slice none 0 0] 30) = q6 := ⟨_, rfl⟩
          rw [hq6] at HQ6 HX6 hHeld
          rw [hq6]
          clear hK K hq6
          try simp only [Act.put, List.getElem_toArray, List.getElem_cons_zero, List.getElem_cons_succ, List.setIfInBounds_toArray, List.set_cons_zero, List.set_cons_succ]
          refine AnyE.next (rs := [5, 12]) (by kernel_rfl) (by simp) ?_
          refine AllE.cons rfl (fun K hK => ?_) ?_
          · go_simp
            refine (HDR.out _ HQ6.out).mono ?_
            rintro e q7 ⟨lv1, dv1, ps1, nk, nc, ng, nx, nL, ncap, kv, rfl, hd, hb⟩
            obtain ⟨l1, c1, rfl, _, _⟩ := IsX.slice hd.l
            obtain ⟨d1, e1, rfl, _, _⟩ := IsX.slice hd.d.1
            have HQ7 := Lib.hid (HQ6.out.trans (hb.mono HQ6.out.size))
            have HX7 := Lib.hid (HX6.out.below hb HX6.out.lt)
            have LX := Lib.hid (show (wr.heap.size ≤ q0.heap.size ∧ q0.heap.size < q6.heap.size) ∨ q7.heap.size ≤ q0.heap.size from .inl ⟨GX.out, HX6.out.lt⟩)
            refine hK.out _ _ (HS8.out _ HQ7.out) (fun hHeld => ?_)
            have HD := Lib.hid hd
            have HDB := Lib.hid (Below.refl q7.heap.size q7)
            clear hK K hd hb
            try simp only [Act.put, List.getElem_toArray, List.getElem_cons_zero, List.getElem_cons_succ, List.setIfInBounds_toArray, List.set_cons_zero, List.set_cons_succ]
            refine AnyE.take (i := 6) (v := ?_) rfl (by kernel_rfl) (by kernel_rfl) (by kernel_rfl) (by kernel_rfl) (fun _ _ _ h => h) (Or.inl ⟨by rfl, ?_⟩) (by assumption) ?_
            rotate_left 1
            · intro w hSw
              (try dsimp only at hSw)
              go_simp
              all_goals (with_reducible rfl)
            try simp only [Act.put, List.getElem_toArray, List.getElem_cons_zero, List.getElem_cons_succ, List.setIfInBounds_toArray, List.set_cons_zero, List.set_cons_succ]
            refine AnyE.take (i := 7) (v := ?_) rfl (by kernel_rfl) (by kernel_rfl) (by kernel_rfl) (by kernel_rfl) (fun _ _ _ h => h) (Or.inl ⟨by rfl, ?_⟩) (by assumption) ?_
            rotate_left 1
            · intro w hSw
              (try dsimp only at hSw)
              go_simp
              all_goals (with_reducible rfl)
            try simp only [Act.put, List.getElem_toArray, List.getElem_cons_zero, List.getElem_cons_succ, List.setIfInBounds_toArray, List.set_cons_zero, List.set_cons_succ]
            refine AnyE.take (i := 8) (v := ?_) rfl (by kernel_rfl) (by kernel_rfl) (by kernel_rfl) (by kernel_rfl) (fun _ _ _ h => h) (Or.inl ⟨by rfl, ?_⟩) (by assumption) ?_
            rotate_left 1
            · intro w hSw
              (try dsimp only at hSw)
              go_simp
              all_goals (with_reducible rfl)
            try simp only [Act.put, List.getElem_toArray, List.getElem_cons_zero, List.getElem_cons_succ, List.setIfInBounds_toArray, List.set_cons_zero, List.set_cons_succ]
            refine AnyE.take (i := 9) (v := ?_) rfl (by kernel_rfl) (by kernel_rfl) (by kernel_rfl) (by kernel_rfl) (fun _ _ _ h => h) (Or.inl ⟨by rfl, ?_⟩) (by assumption) ?_
            rotate_left 1
            · intro w hSw
              (try dsimp only at hSw)
              go_simp
              all_goals (with_reducible rfl)
            try simp only [Act.put, List.getElem_toArray, List.getElem_cons_zero, List.getElem_cons_succ, List.setIfInBounds_toArray, List.set_cons_zero, List.set_cons_succ]
            refine AnyE.take (i := 10) (v := ?_) rfl (by kernel_rfl) (by kernel_rfl) (by kernel_rfl) (by kernel_rfl) (fun _ _ _ h => h) (Or.inl ⟨by rfl, ?_⟩) (by assumption) ?_
            rotate_left 1
            · intro w hSw
              (try dsimp only at hSw)
              go_simp
              all_goals (with_reducible rfl)
            try simp only [Act.put, List.getElem_toArray, List.getElem_cons_zero, List.getElem_cons_succ, List.setIfInBounds_toArray, List.set_cons_zero, List.set_cons_succ]
            refine AnyE.next (rs := [12]) (by kernel_rfl) (by simp) ?_
            refine AllE.cons rfl (fun K hK => ?_) AllE.nil
            go_simp
            refine hK.out _ _ (HS8.out _ (HQ7.out.alloc HQ7.out.size (.cells #[.int .u64 0, .int .u32 0, .bool false, .slice none 0 0] 47))) (fun hHeld => ?_)
            have HQ8 := Lib.hid (HQ7.out.alloc HQ7.out.size (.cells #[.int .u64 0, .int .u32 0, .bool false, .slice none 0 0] 47))
            have HY8 := Lib.hid (Blk.new q7 #[.int .u64 0, .int .u32 0, .bool false, .slice none 0 0] 47)
            have GY := Lib.hid HQ7.out.size
            have HX8b := Lib.hid (HX7.out.alloc (.cells #[.int .u64 0, .int .u32 0, .bool false, .slice none 0 0] 47))
            have HDB8 := Lib.hid (HDB.out.alloc HDB.out.size (.cells #[.int .u64 0, .int .u32 0, .bool false, .slice none 0 0] 47))
            have LY := Lib.hid (show (wr.heap.size ≤ q7.heap.size ∧ q7.heap.size < q6.heap.size) ∨ q7.heap.size ≤ q7.heap.size from .inr HDB.out.size)
            obtain ⟨q8, hq8⟩ : ∃ q8, q7.alloc (.cells #[.int .u64 0, .int .u32 0, .bool false, .slice none 0 0] 47) = q8 := ⟨_, rfl⟩
            rw [hq8] at HQ8 HX8b HY8 HDB8 hHeld
            rw [hq8]
            clear hK K hq8
            try simp only [Act.put, List.getElem_toArray, List.getElem_cons_zero, List.getElem_cons_succ, List.setIfInBounds_toArray, List.set_cons_zero, List.set_cons_succ]
            have hXY : q0.heap.size ≠ q7.heap.size := fun e => by
              have h1 := HX8b.out
              have h2 := HY8.out
              rw [e] at h1
              have h3 := h1.symm.trans h2
              simp at h3
            have XX2 := Lib.hid (blk_set7 HX8b.out (.int .i64 (s1.num : Int)) (.int .i64 (s1.most : Int)) (.int .i64 (s1.epoch : Int)) (.int .i64 (s1.size : Int)) (.bool s1.shut) (.slice l1 s1.idx.length c1) (.slice d1 ps1.length e1))
            have XY2 := Lib.hid (HY8.out.other7 hXY (.int .i64 (s1.num : Int)) (.int .i64 (s1.most : Int)) (.int .i64 (s1.epoch : Int)) (.int .i64 (s1.size : Int)) (.bool s1.shut) (.slice l1 s1.idx.length c1) (.slice d1 ps1.length e1))
            have XX3 := Lib.hid (XX2.out.other4 (fun e => hXY e.symm) (.int .u64 nk) (.int .u32 nc) (.bool ng) (.slice nx nL ncap))
            have XB2 := Lib.hid (below_set7 (g := q0.heap.size) (u0 := .int .i64 (s1.num : Int)) (u1 := .int .i64 (s1.most : Int)) (u2 := .int .i64 (s1.epoch : Int)) (u3 := .int .i64 (s1.size : Int)) (u4 := .bool s1.shut) (u5 := .slice l1 s1.idx.length c1) (u6 := .slice d1 ps1.length e1) HQ8.out GX.out)
            have XB3 := Lib.hid (below_set4 (g := q7.heap.size) (u0 := .int .u64 nk) (u1 := .int .u32 nc) (u2 := .bool ng) (u3 := .slice nx nL ncap) XB2.out GY.out)
            have XD3 := Lib.hid (HI.out.docX HD.out HDB8.out LX.out LY.out (.int .i64 (s1.num : Int)) (.int .i64 (s1.most : Int)) (.int .i64 (s1.epoch : Int)) (.int .i64 (s1.size : Int)) (.bool s1.shut) (.slice l1 s1.idx.length c1) (.slice d1 ps1.length e1) (.int .u64 nk) (.int .u32 nc) (.bool ng) (.slice nx nL ncap))
            clear hXY
            have z0 := HX8b.out.cell 0 rfl
            have z1 := HX8b.out.cell 1 rfl
            have z2 := HX8b.out.cell 2 rfl
            have z3 := HX8b.out.cell 3 rfl
            have z4 := HX8b.out.cell 4 rfl
            have z5 := HX8b.out.cell 5 rfl
            have z6 := HX8b.out.cell 6 rfl
            have zf := fun j => HX8b.out.free j
            have r0 := XY2.out.cell 0 rfl
            have r1 := XY2.out.cell 1 rfl
            have r2 := XY2.out.cell 2 rfl
            have r3 := XY2.out.cell 3 rfl
            have rf := fun j => XY2.out.free j
            unfold set7 at XX2 XY2 XX3 XB2 XB3 XD3 r0 r1 r2 r3 rf
            unfold set4 at XX3 XB3 XD3
            refine AnyE.next (rs := [13]) (by kernel_rfl) (by simp) ?_
            refine AllE.cons rfl (fun K hK => ?_) AllE.nil
            go_simp
            refine hK.out _ _ (HS8.out _ XB2.out) (fun hHeld => ?_)
            clear hK K
            try simp only [Act.put, List.getElem_toArray, List.getElem_cons_zero, List.getElem_cons_succ, List.setIfInBounds_toArray, List.set_cons_zero, List.set_cons_succ]
            refine AnyE.next (rs := [14]) (by kernel_rfl) (by simp) ?_
            refine AllE.cons rfl (fun K hK => ?_) AllE.nil
            go_simp
            refine hK.out _ _ (HS8.out _ XB3.out) (fun hHeld => ?_)
            clear hK K
            try simp only [Act.put, List.getElem_toArray, List.getElem_cons_zero, List.getElem_cons_succ, List.setIfInBounds_toArray, List.set_cons_zero, List.set_cons_succ]
            clear z0 z1 z2 z3 z4 z5 z6 zf r0 r1 r2 r3 rf
            refine AnyE.take (i := 15) (v := ?_) rfl (by kernel_rfl) (by kernel_rfl) (by kernel_rfl) (by kernel_rfl) (fun _ _ _ h => h) (Or.inl ⟨by rfl, ?_⟩) (by assumption) ?_
            rotate_left 1
            · intro w hSw
              (try dsimp only at hSw)
              go_simp
              all_goals (with_reducible rfl)
            try simp only [Act.put, List.getElem_toArray, List.getElem_cons_zero, List.getElem_cons_succ, List.setIfInBounds_toArray, List.set_cons_zero, List.set_cons_succ]
            refine AnyE.next (rs := [16]) (by kernel_rfl) (by simp) ?_
            refine AllE.last rfl (fun K hK => ?_)
            go_simp
            refine hK.out _ _ ?_
            clear hK K
            try simp only [Act.put, List.getElem_toArray, List.getElem_cons_zero, List.getElem_cons_succ, List.setIfInBounds_toArray, List.set_cons_zero, List.set_cons_succ]
            refine AnyE.done (by kernel_rfl) ?_ _
            go_wp2_with fail
            go_meet
            exact ⟨q0.heap.size, l1, s1.idx.length, c1, d1, ps1.length, e1, ps1, by first | exact rfl | exact trivial, by first | exact rfl | exact trivial, rfl, rfl, GX.out, XB3, XD3, XX3⟩
          refine AllE.cons rfl (fun K hK => ?_) AllE.nil
          go_simp
          refine hK.out _ _ (HS8.out _ (HQ6.out.alloc HQ6.out.size (.cells #[.int .u64 0, .int .u32 0, .bool false, .slice none 0 0] 47))) (fun hHeld => ?_)
          have HQ9 := Lib.hid (HQ6.out.alloc HQ6.out.size (.cells #[.int .u64 0, .int .u32 0, .bool false, .slice none 0 0] 47))
          have HY9 := Lib.hid (Blk.new q6 #[.int .u64 0, .int .u32 0, .bool false, .slice none 0 0] 47)
          have GY := Lib.hid HQ6.out.size
          have HX9b := Lib.hid (HX6.out.alloc (.cells #[.int .u64 0, .int .u32 0, .bool false, .slice none 0 0] 47))
          obtain ⟨q9, hq9⟩ : ∃ q9, q6.alloc (.cells #[.int .u64 0, .int .u32 0, .bool false, .slice none 0 0] 47) = q9 := ⟨_, rfl⟩
          rw [hq9] at HQ9 HX9b HY9 hHeld
          rw [hq9]
          clear hK K hq9
          try simp only [Act.put, List.getElem_toArray, List.getElem_cons_zero, List.getElem_cons_succ, List.setIfInBounds_toArray, List.set_cons_zero, List.set_cons_succ]
          refine AnyE.next (rs := [5]) (by kernel_rfl) (by simp) ?_
          refine AllE.cons rfl (fun K hK => ?_) AllE.nil
          go_simp
          refine (HDR.out _ HQ9.out).mono ?_
          rintro e q10 ⟨lv1, dv1, ps1, nk, nc, ng, nx, nL, ncap, kv, rfl, hd, hb⟩
          obtain ⟨l1, c1, rfl, _, _⟩ := IsX.slice hd.l
          obtain ⟨d1, e1, rfl, _, _⟩ := IsX.slice hd.d.1
          have HQ10 := Lib.hid (HQ9.out.trans (hb.mono HQ9.out.size))
          have HX10 := Lib.hid (HX9b.out.below hb HX9b.out.lt)
          have LX := Lib.hid (show (wr.heap.size ≤ q0.heap.size ∧ q0.heap.size < q9.heap.size) ∨ q10.heap.size ≤ q0.heap.size from .inl ⟨GX.out, HX9b.out.lt⟩)
          have HY10 := Lib.hid (HY9.out.below hb HY9.out.lt)
          have LY := Lib.hid (show (wr.heap.size ≤ q6.heap.size ∧ q6.heap.size < q9.heap.size) ∨ q10.heap.size ≤ q6.heap.size from .inl ⟨GY.out, HY9.out.lt⟩)
          refine hK.out _ _ (HS8.out _ HQ10.out) (fun hHeld => ?_)
          have HD := Lib.hid hd
          have HDB := Lib.hid (Below.refl q10.heap.size q10)
          clear hK K hd hb
          try simp only [Act.put, List.getElem_toArray, List.getElem_cons_zero, List.getElem_cons_succ, List.setIfInBounds_toArray, List.set_cons_zero, List.set_cons_succ]
          refine AnyE.take (i := 6) (v := ?_) rfl (by kernel_rfl) (by kernel_rfl) (by kernel_rfl) (by kernel_rfl) (fun _ _ _ h => h) (Or.inl ⟨by rfl, ?_⟩) (by assumption) ?_
          rotate_left 1
          · intro w hSw
            (try dsimp only at hSw)
            go_simp
            all_goals (with_reducible rfl)
          try simp only [Act.put, List.getElem_toArray, List.getElem_cons_zero, List.getElem_cons_succ, List.setIfInBounds_toArray, List.set_cons_zero, List.set_cons_succ]
          refine AnyE.take (i := 7) (v := ?_) rfl (by kernel_rfl) (by kernel_rfl) (by kernel_rfl) (by kernel_rfl) (fun _ _ _ h => h) (Or.inl ⟨by rfl, ?_⟩) (by assumption) ?_
          rotate_left 1
          · intro w hSw
            (try dsimp only at hSw)
            go_simp
            all_goals (with_reducible rfl)
          try simp only [Act.put, List.getElem_toArray, List.getElem_cons_zero, List.getElem_cons_succ, List.setIfInBounds_toArray, List.set_cons_zero, List.set_cons_succ]
          refine AnyE.take (i := 8) (v := ?_) rfl (by kernel_rfl) (by kernel_rfl) (by kernel_rfl) (by kernel_rfl) (fun _ _ _ h => h) (Or.inl ⟨by rfl, ?_⟩) (by assumption) ?_
          rotate_left 1
          · intro w hSw
            (try dsimp only at hSw)
            go_simp
            all_goals (with_reducible rfl)
          try simp only [Act.put, List.getElem_toArray, List.getElem_cons_zero, List.getElem_cons_succ, List.setIfInBounds_toArray, List.set_cons_zero, List.set_cons_succ]
          refine AnyE.take (i := 9) (v := ?_) rfl (by kernel_rfl) (by kernel_rfl) (by kernel_rfl) (by kernel_rfl) (fun _ _ _ h => h) (Or.inl ⟨by rfl, ?_⟩) (by assumption) ?_
          rotate_left 1
          · intro w hSw
            (try dsimp only at hSw)
            go_simp
            all_goals (with_reducible rfl)
          try simp only [Act.put, List.getElem_toArray, List.getElem_cons_zero, List.getElem_cons_succ, List.setIfInBounds_toArray, List.set_cons_zero, List.set_cons_succ]
          refine AnyE.take (i := 10) (v := ?_) rfl (by kernel_rfl) (by kernel_rfl) (by kernel_rfl) (by kernel_rfl) (fun _ _ _ h => h) (Or.inl ⟨by rfl, ?_⟩) (by assumption) ?_
          rotate_left 1
          · intro w hSw
            (try dsimp only at hSw)
            go_simp
            all_goals (with_reducible rfl)
          try simp only [Act.put, List.getElem_toArray, List.getElem_cons_zero, List.getElem_cons_succ, List.setIfInBounds_toArray, List.set_cons_zero, List.set_cons_succ]
          have hXY : q0.heap.size ≠ q6.heap.size := fun e => by
            have h1 := HX10.out
            have h2 := HY10.out
            rw [e] at h1
            have h3 := h1.symm.trans h2
            simp at h3
          have XX2 := Lib.hid (blk_set7 HX10.out (.int .i64 (s1.num : Int)) (.int .i64 (s1.most : Int)) (.int .i64 (s1.epoch : Int)) (.int .i64 (s1.size : Int)) (.bool s1.shut) (.slice l1 s1.idx.length c1) (.slice d1 ps1.length e1))
          have XY2 := Lib.hid (HY10.out.other7 hXY (.int .i64 (s1.num : Int)) (.int .i64 (s1.most : Int)) (.int .i64 (s1.epoch : Int)) (.int .i64 (s1.size : Int)) (.bool s1.shut) (.slice l1 s1.idx.length c1) (.slice d1 ps1.length e1))
          have XX3 := Lib.hid (XX2.out.other4 (fun e => hXY e.symm) (.int .u64 nk) (.int .u32 nc) (.bool ng) (.slice nx nL ncap))
          have XB2 := Lib.hid (below_set7 (g := q0.heap.size) (u0 := .int .i64 (s1.num : Int)) (u1 := .int .i64 (s1.most : Int)) (u2 := .int .i64 (s1.epoch : Int)) (u3 := .int .i64 (s1.size : Int)) (u4 := .bool s1.shut) (u5 := .slice l1 s1.idx.length c1) (u6 := .slice d1 ps1.length e1) HQ10.out GX.out)
          have XB3 := Lib.hid (below_set4 (g := q6.heap.size) (u0 := .int .u64 nk) (u1 := .int .u32 nc) (u2 := .bool ng) (u3 := .slice nx nL ncap) XB2.out GY.out)
          have XD3 := Lib.hid (HI.out.docX HD.out HDB.out LX.out LY.out (.int .i64 (s1.num : Int)) (.int .i64 (s1.most : Int)) (.int .i64 (s1.epoch : Int)) (.int .i64 (s1.size : Int)) (.bool s1.shut) (.slice l1 s1.idx.length c1) (.slice d1 ps1.length e1) (.int .u64 nk) (.int .u32 nc) (.bool ng) (.slice nx nL ncap))
          clear hXY
          have z0 := HX10.out.cell 0 rfl
          have z1 := HX10.out.cell 1 rfl
          have z2 := HX10.out.cell 2 rfl
          have z3 := HX10.out.cell 3 rfl
          have z4 := HX10.out.cell 4 rfl
          have z5 := HX10.out.cell 5 rfl
          have z6 := HX10.out.cell 6 rfl
          have zf := fun j => HX10.out.free j
          have r0 := XY2.out.cell 0 rfl
          have r1 := XY2.out.cell 1 rfl
          have r2 := XY2.out.cell 2 rfl
          have r3 := XY2.out.cell 3 rfl
          have rf := fun j => XY2.out.free j
          unfold set7 at XX2 XY2 XX3 XB2 XB3 XD3 r0 r1 r2 r3 rf
          unfold set4 at XX3 XB3 XD3
          refine AnyE.next (rs := [13]) (by kernel_rfl) (by simp) ?_
          refine AllE.cons rfl (fun K hK => ?_) AllE.nil
          go_simp
          refine hK.out _ _ (HS8.out _ XB2.out) (fun hHeld => ?_)
          clear hK K
          try simp only [Act.put, List.getElem_toArray, List.getElem_cons_zero, List.getElem_cons_succ, List.setIfInBounds_toArray, List.set_cons_zero, List.set_cons_succ]
          refine AnyE.next (rs := [14]) (by kernel_rfl) (by simp) ?_
          refine AllE.cons rfl (fun K hK => ?_) AllE.nil
          go_simp
          refine hK.out _ _ (HS8.out _ XB3.out) (fun hHeld => ?_)
          clear hK K
          try simp only [Act.put, List.getElem_toArray, List.getElem_cons_zero, List.getElem_cons_succ, List.setIfInBounds_toArray, List.set_cons_zero, List.set_cons_succ]
          clear z0 z1 z2 z3 z4 z5 z6 zf r0 r1 r2 r3 rf
          refine AnyE.take (i := 15) (v := ?_) rfl (by kernel_rfl) (by kernel_rfl) (by kernel_rfl) (by kernel_rfl) (fun _ _ _ h => h) (Or.inl ⟨by rfl, ?_⟩) (by assumption) ?_
          rotate_left 1
          · intro w hSw
            (try dsimp only at hSw)
            go_simp
            all_goals (with_reducible rfl)
          try simp only [Act.put, List.getElem_toArray, List.getElem_cons_zero, List.getElem_cons_succ, List.setIfInBounds_toArray, List.set_cons_zero, List.set_cons_succ]
          refine AnyE.next (rs := [16]) (by kernel_rfl) (by simp) ?_
          refine AllE.last rfl (fun K hK => ?_)
          go_simp
          refine hK.out _ _ ?_
          clear hK K
          try simp only [Act.put, List.getElem_toArray, List.getElem_cons_zero, List.getElem_cons_succ, List.setIfInBounds_toArray, List.set_cons_zero, List.set_cons_succ]
          refine AnyE.done (by kernel_rfl) ?_ _
          go_wp2_with fail
          go_meet
          exact ⟨q0.heap.size, l1, s1.idx.length, c1, d1, ps1.length, e1, ps1, by first | exact rfl | exact trivial, by first | exact rfl | exact trivial, rfl, rfl, GX.out, XB3, XD3, XX3⟩
        refine AllE.cons rfl (fun K hK => ?_) AllE.nil
        go_simp
        refine hK.out _ _ (HS8.out _ (HQ0.out.alloc HQ0.out.size (.cells #[.int .u64 0, .int .u32 0, .bool false, .slice none 0 0] 47))) (fun hHeld => ?_)
        have HQ11 := Lib.hid (HQ0.out.alloc HQ0.out.size (.cells #[.int .u64 0, .int .u32 0, .bool false, .slice none 0 0] 47))
        have HY11 := Lib.hid (Blk.new q0 #[.int .u64 0, .int .u32 0, .bool false, .slice none 0 0] 47)
        have GY := Lib.hid HQ0.out.size
        obtain ⟨q11, hq11⟩ : ∃ q11, q0.alloc (.cells #[.int .u64 0, .int .u32 0, .bool false, .slice none 0 0] 47) = q11 := ⟨_, rfl⟩
        rw [hq11] at HQ11 HY11 hHeld
        rw [hq11]
        clear hK K hq11
        try simp only [Act.put, List.getElem_toArray, List.getElem_cons_zero, List.getElem_cons_succ, List.setIfInBounds_toArray, List.set_cons_zero, List.set_cons_succ]
        refine AnyE.next (rs := [5, 11]) (by kernel_rfl) (by simp) ?_
        refine AllE.cons rfl (fun K hK => ?_) ?_
        · go_simp
          refine (HDR.out _ HQ11.out).mono ?_
          rintro e q12 ⟨lv1, dv1, ps1, nk, nc, ng, nx, nL, ncap, kv, rfl, hd, hb⟩
          obtain ⟨l1, c1, rfl, _, _⟩ := IsX.slice hd.l
          obtain ⟨d1, e1, rfl, _, _⟩ := IsX.slice hd.d.1
          have HQ12 := Lib.hid (HQ11.out.trans (hb.mono HQ11.out.size))
          have HY12 := Lib.hid (HY11.out.below hb HY11.out.lt)
          have LY := Lib.hid (show (wr.heap.size ≤ q0.heap.size ∧ q0.heap.size < q11.heap.size) ∨ q12.heap.size ≤ q0.heap.size from .inl ⟨GY.out, HY11.out.lt⟩)
          refine hK.out _ _ (HS8.out _ HQ12.out) (fun hHeld => ?_)
          have HD := Lib.hid hd
          have HDB := Lib.hid (Below.refl q12.heap.size q12)
          clear hK K hd hb
          try simp only [Act.put, List.getElem_toArray, List.getElem_cons_zero, List.getElem_cons_succ, List.setIfInBounds_toArray, List.set_cons_zero, List.set_cons_succ]
          refine AnyE.take (i := 6) (v := ?_) rfl (by kernel_rfl) (by kernel_rfl) (by kernel_rfl) (by kernel_rfl) (fun _ _ _ h => h) (Or.inl ⟨by rfl, ?_⟩) (by assumption) ?_
          rotate_left 1
          · intro w hSw
            (try dsimp only at hSw)
            go_simp
            all_goals (with_reducible rfl)
          try simp only [Act.put, List.getElem_toArray, List.getElem_cons_zero, List.getElem_cons_succ, List.setIfInBounds_toArray, List.set_cons_zero, List.set_cons_succ]
          refine AnyE.take (i := 7) (v := ?_) rfl (by kernel_rfl) (by kernel_rfl) (by kernel_rfl) (by kernel_rfl) (fun _ _ _ h => h) (Or.inl ⟨by rfl, ?_⟩) (by assumption) ?_
          rotate_left 1
          · intro w hSw
            (try dsimp only at hSw)
            go_simp
            all_goals (with_reducible rfl)
          try simp only [Act.put, List.getElem_toArray, List.getElem_cons_zero, List.getElem_cons_succ, List.setIfInBounds_toArray, List.set_cons_zero, List.set_cons_succ]
          refine AnyE.take (i := 8) (v := ?_) rfl (by kernel_rfl) (by kernel_rfl) (by kernel_rfl) (by kernel_rfl) (fun _ _ _ h => h) (Or.inl ⟨by rfl, ?_⟩) (by assumption) ?_
          rotate_left 1
          · intro w hSw
            (try dsimp only at hSw)
            go_simp
            all_goals (with_reducible rfl)
          try simp only [Act.put, List.getElem_toArray, List.getElem_cons_zero, List.getElem_cons_succ, List.setIfInBounds_toArray, List.set_cons_zero, List.set_cons_succ]
          refine AnyE.take (i := 9) (v := ?_) rfl (by kernel_rfl) (by kernel_rfl) (by kernel_rfl) (by kernel_rfl) (fun _ _ _ h => h) (Or.inl ⟨by rfl, ?_⟩) (by assumption) ?_
          rotate_left 1
          · intro w hSw
            (try dsimp only at hSw)
            go_simp
            all_goals (with_reducible rfl)
          try simp only [Act.put, List.getElem_toArray, List.getElem_cons_zero, List.getElem_cons_succ, List.setIfInBounds_toArray, List.set_cons_zero, List.set_cons_succ]
          refine AnyE.take (i := 10) (v := ?_) rfl (by kernel_rfl) (by kernel_rfl) (by kernel_rfl) (by kernel_rfl) (fun _ _ _ h => h) (Or.inl ⟨by rfl, ?_⟩) (by assumption) ?_
          rotate_left 1
          · intro w hSw
            (try dsimp only at hSw)
            go_simp
            all_goals (with_reducible rfl)
          try simp only [Act.put, List.getElem_toArray, List.getElem_cons_zero, List.getElem_cons_succ, List.setIfInBounds_toArray, List.set_cons_zero, List.set_cons_succ]
          refine AnyE.next (rs := [11]) (by kernel_rfl) (by simp) ?_
          refine AllE.cons rfl (fun K hK => ?_) AllE.nil
          go_simp
          refine hK.out _ _ (HS8.out _ (HQ12.out.alloc HQ12.out.size (.cells #[.int .i64 0, .int .i64 0, .int .i64 0, .int .i64 0, .bool false, .slice none 0 0, .slice none 0 0] 30))) (fun hHeld => ?_)
          have HQ13 := Lib.hid (HQ12.out.alloc HQ12.out.size (.cells #[.int .i64 0, .int .i64 0, .int .i64 0, .int .i64 0, .bool false, .slice none 0 0, .slice none 0 0] 30))
          have HX13 := Lib.hid (Blk.new q12 #[.int .i64 0, .int .i64 0, .int .i64 0, .int .i64 0, .bool false, .slice none 0 0, .slice none 0 0] 30)
          have GX := Lib.hid HQ12.out.size
          have HY13b := Lib.hid (HY12.out.alloc (.cells #[.int .i64 0, .int .i64 0, .int .i64 0, .int .i64 0, .bool false, .slice none 0 0, .slice none 0 0] 30))
          have HDB13 := Lib.hid (HDB.out.alloc HDB.out.size (.cells #[.int .i64 0, .int .i64 0, .int .i64 0, .int .i64 0, .bool false, .slice none 0 0, .slice none 0 0] 30))
          have LX := Lib.hid (show (wr.heap.size ≤ q12.heap.size ∧ q12.heap.size < q11.heap.size) ∨ q12.heap.size ≤ q12.heap.size from .inr HDB.out.size)
          obtain ⟨q13, hq13⟩ : ∃ q13, q12.alloc (.cells #[.int .i64 0, .int .i64 0, .int .i64 0, .int .i64 0, .bool false, .slice none 0 0, .slice none 0 0] 30) = q13 := ⟨_, rfl⟩
          rw [hq13] at HQ13 HX13 HY13b HDB13 hHeld
          rw [hq13]
          clear hK K hq13
          try simp only [Act.put, List.getElem_toArray, List.getElem_cons_zero, List.getElem_cons_succ, List.setIfInBounds_toArray, List.set_cons_zero, List.set_cons_succ]
          have hXY : q12.heap.size ≠ q0.heap.size := fun e => by
            have h1 := HX13.out
            have h2 := HY13b.out
            rw [e] at h1
            have h3 := h1.symm.trans h2
            simp at h3
          have XX2 := Lib.hid (blk_set7 HX13.out (.int .i64 (s1.num : Int)) (.int .i64 (s1.most : Int)) (.int .i64 (s1.epoch : Int)) (.int .i64 (s1.size : Int)) (.bool s1.shut) (.slice l1 s1.idx.length c1) (.slice d1 ps1.length e1))
          have XY2 := Lib.hid (HY13b.out.other7 hXY (.int .i64 (s1.num : Int)) (.int .i64 (s1.most : Int)) (.int .i64 (s1.epoch : Int)) (.int .i64 (s1.size : Int)) (.bool s1.shut) (.slice l1 s1.idx.length c1) (.slice d1 ps1.length e1))
          have XX3 := Lib.hid (XX2.out.other4 (fun e => hXY e.symm) (.int .u64 nk) (.int .u32 nc) (.bool ng) (.slice nx nL ncap))
          have XB2 := Lib.hid (below_set7 (g := q12.heap.size) (u0 := .int .i64 (s1.num : Int)) (u1 := .int .i64 (s1.most : Int)) (u2 := .int .i64 (s1.epoch : Int)) (u3 := .int .i64 (s1.size : Int)) (u4 := .bool s1.shut) (u5 := .slice l1 s1.idx.length c1) (u6 := .slice d1 ps1.length e1) HQ13.out GX.out)
          have XB3 := Lib.hid (below_set4 (g := q0.heap.size) (u0 := .int .u64 nk) (u1 := .int .u32 nc) (u2 := .bool ng) (u3 := .slice nx nL ncap) XB2.out GY.out)
          have XD3 := Lib.hid (HI.out.docX HD.out HDB13.out LX.out LY.out (.int .i64 (s1.num : Int)) (.int .i64 (s1.most : Int)) (.int .i64 (s1.epoch : Int)) (.int .i64 (s1.size : Int)) (.bool s1.shut) (.slice l1 s1.idx.length c1) (.slice d1 ps1.length e1) (.int .u64 nk) (.int .u32 nc) (.bool ng) (.slice nx nL ncap))
          clear hXY
          have z0 := HX13.out.cell 0 rfl
          have z1 := HX13.out.cell 1 rfl
          have z2 := HX13.out.cell 2 rfl
          have z3 := HX13.out.cell 3 rfl
          have z4 := HX13.out.cell 4 rfl
          have z5 := HX13.out.cell 5 rfl
          have z6 := HX13.out.cell 6 rfl
          have zf := fun j => HX13.out.free j
          have r0 := XY2.out.cell 0 rfl
          have r1 := XY2.out.cell 1 rfl
          have r2 := XY2.out.cell 2 rfl
          have r3 := XY2.out.cell 3 rfl
          have rf := fun j => XY2.out.free j
          unfold set7 at XX2 XY2 XX3 XB2 XB3 XD3 r0 r1 r2 r3 rf
          unfold set4 at XX3 XB3 XD3
          refine AnyE.next (rs := [13]) (by kernel_rfl) (by simp) ?_
          refine AllE.cons rfl (fun K hK => ?_) AllE.nil
          go_simp
          refine hK.out _ _ (HS8.out _ XB2.out) (fun hHeld => ?_)
          clear hK K
          try simp only [Act.put, List.getElem_toArray, List.getElem_cons_zero, List.getElem_cons_succ, List.setIfInBounds_toArray, List.set_cons_zero, List.set_cons_succ]
          refine AnyE.next (rs := [14]) (by kernel_rfl) (by simp) ?_
          refine AllE.cons rfl (fun K hK => ?_) AllE.nil
          go_simp
          refine hK.out _ _ (HS8.out _ XB3.out) (fun hHeld => ?_)
          clear hK K
          try simp only [Act.put, List.getElem_toArray, List.getElem_cons_zero, List.getElem_cons_succ, List.setIfInBounds_toArray, List.set_cons_zero, List.set_cons_succ]
          clear z0 z1 z2 z3 z4 z5 z6 zf r0 r1 r2 r3 rf
          refine AnyE.take (i := 15) (v := ?_) rfl (by kernel_rfl) (by kernel_rfl) (by kernel_rfl) (by kernel_rfl) (fun _ _ _ h => h) (Or.inl ⟨by rfl, ?_⟩) (by assumption) ?_
          rotate_left 1
          · intro w hSw
            (try dsimp only at hSw)
            go_simp
            all_goals (with_reducible rfl)
          try simp only [Act.put, List.getElem_toArray, List.getElem_cons_zero, List.getElem_cons_succ, List.setIfInBounds_toArray, List.set_cons_zero, List.set_cons_succ]
          refine AnyE.next (rs := [16]) (by kernel_rfl) (by simp) ?_
          refine AllE.last rfl (fun K hK => ?_)
          go_simp
          refine hK.out _ _ ?_
          clear hK K
          try simp only [Act.put, List.getElem_toArray, List.getElem_cons_zero, List.getElem_cons_succ, List.setIfInBounds_toArray, List.set_cons_zero, List.set_cons_succ]
          refine AnyE.done (by kernel_rfl) ?_ _
          go_wp2_with fail
          go_meet
          exact ⟨q12.heap.size, l1, s1.idx.length, c1, d1, ps1.length, e1, ps1, by first | exact rfl | exact trivial, by first | exact rfl | exact trivial, rfl, rfl, GX.out, XB3, XD3, XX3⟩
        refine AllE.cons rfl (fun K hK => ?_) AllE.nil
        go_simp
        refine hK.out _ _ (HS8.out _ (HQ11.out.alloc HQ11.out.size (.cells #[.int .i64 0, .int .i64 0, .int .i64 0, .int .i64 0, .bool false, .slice none 0 0, .slice none 0 0] 30))) (fun hHeld => ?_)
        have HQ14 := Lib.hid (HQ11.out.alloc HQ11.out.size (.cells #[.int .i64 0, .int .i64 0, .int .i64 0, .int .i64 0, .bool false, .slice none 0 0, .slice none 0 0] 30))
        have HX14 := Lib.hid (Blk.new q11 #[.int .i64 0, .int .i64 0, .int .i64 0, .int .i64 0, .bool false, .slice none 0 0, .slice none 0 0] 30)
        have GX := Lib.hid HQ11.out.size
        have HY14b := Lib.hid (HY11.out.alloc (.cells #[.int .i64 0, .int .i64 0, .int .i64 0, .int .i64 0, .bool false, .slice none 0 0, .slice none 0 0] 30))
        obtain ⟨q14, hq14⟩ : ∃ q14, q11.alloc (.cells #[.int .i64 0, .int .i64 0, .int .i64 0, .int .i64 0, .bool false, .slice none 0 0, .slice none 0 0] 30) = q14 := ⟨_, rfl⟩
        rw [hq14] at HQ14 HX14 HY14b hHeld
        rw [hq14]
        clear hK K hq14
        try simp only [Act.put, List.getElem_toArray, List.getElem_cons_zero, List.getElem_cons_succ, List.setIfInBounds_toArray, List.set_cons_zero, List.set_cons_succ]
        refine AnyE.next (rs := [5]) (by kernel_rfl) (by simp) ?_
        refine AllE.cons rfl (fun K hK => ?_) AllE.nil
        go_simp
        refine (HDR.out _ HQ14.out).mono ?_
        rintro e q15 ⟨lv1, dv1, ps1, nk, nc, ng, nx, nL, ncap, kv, rfl, hd, hb⟩
        obtain ⟨l1, c1, rfl, _, _⟩ := IsX.slice hd.l
        obtain ⟨d1, e1, rfl, _, _⟩ := IsX.slice hd.d.1
        have HQ15 := Lib.hid (HQ14.out.trans (hb.mono HQ14.out.size))
        have HX15 := Lib.hid (HX14.out.below hb HX14.out.lt)
        have LX := Lib.hid (show (wr.heap.size ≤ q11.heap.size ∧ q11.heap.size < q14.heap.size) ∨ q15.heap.size ≤ q11.heap.size from .inl ⟨GX.out, HX14.out.lt⟩)
        have HY15 := Lib.hid (HY14b.out.below hb HY14b.out.lt)
        have LY := Lib.hid (show (wr.heap.size ≤ q0.heap.size ∧ q0.heap.size < q14.heap.size) ∨ q15.heap.size ≤ q0.heap.size from .inl ⟨GY.out, HY14b.out.lt⟩)
        refine hK.out _ _ (HS8.out _ HQ15.out) (fun hHeld => ?_)
        have HD := Lib.hid hd
        have HDB := Lib.hid (Below.refl q15.heap.size q15)
        clear hK K hd hb
        try simp only [Act.put, List.getElem_toArray, List.getElem_cons_zero, List.getElem_cons_succ, List.setIfInBounds_toArray, List.set_cons_zero, List.set_cons_succ]
        refine AnyE.take (i := 6) (v := ?_) rfl (by kernel_rfl) (by kernel_rfl) (by kernel_rfl) (by kernel_rfl) (fun _ _ _ h => h) (Or.inl ⟨by rfl, ?_⟩) (by assumption) ?_
        rotate_left 1
        · intro w hSw
          (try dsimp only at hSw)
          go_simp
          all_goals (with_reducible rfl)
        try simp only [Act.put, List.getElem_toArray, List.getElem_cons_zero, List.getElem_cons_succ, List.setIfInBounds_toArray, List.set_cons_zero, List.set_cons_succ]
        refine AnyE.take (i := 7) (v := ?_) rfl (by kernel_rfl) (by kernel_rfl) (by kernel_rfl) (by kernel_rfl) (fun _ _ _ h => h) (Or.inl ⟨by rfl, ?_⟩) (by assumption) ?_
        rotate_left 1
        · intro w hSw
          (try dsimp only at hSw)
          go_simp
          all_goals (with_reducible rfl)
        try simp only [Act.put, List.getElem_toArray, List.getElem_cons_zero, List.getElem_cons_succ, List.setIfInBounds_toArray, List.set_cons_zero, List.set_cons_succ]
        refine AnyE.take (i := 8) (v := ?_) rfl (by kernel_rfl) (by kernel_rfl) (by kernel_rfl) (by kernel_rfl) (fun _ _ _ h => h) (Or.inl ⟨by rfl, ?_⟩) (by assumption) ?_
        rotate_left 1
        · intro w hSw
          (try dsimp only at hSw)
          go_simp
          all_goals (with_reducible rfl)
        try simp only [Act.put, List.getElem_toArray, List.getElem_cons_zero, List.getElem_cons_succ, List.setIfInBounds_toArray, List.set_cons_zero, List.set_cons_succ]
        refine AnyE.take (i := 9) (v := ?_) rfl (by kernel_rfl) (by kernel_rfl) (by kernel_rfl) (by kernel_rfl) (fun _ _ _ h => h) (Or.inl ⟨by rfl, ?_⟩) (by assumption) ?_
        rotate_left 1
        · intro w hSw
          (try dsimp only at hSw)
          go_simp
          all_goals (with_reducible rfl)
        try simp only [Act.put, List.getElem_toArray, List.getElem_cons_zero, List.getElem_cons_succ, List.setIfInBounds_toArray, List.set_cons_zero, List.set_cons_succ]
        refine AnyE.take (i := 10) (v := ?_) rfl (by kernel_rfl) (by kernel_rfl) (by kernel_rfl) (by kernel_rfl) (fun _ _ _ h => h) (Or.inl ⟨by rfl, ?_⟩) (by assumption) ?_
        rotate_left 1
        · intro w hSw
          (try dsimp only at hSw)
          go_simp
          all_goals (with_reducible rfl)
        try simp only [Act.put, List.getElem_toArray, List.getElem_cons_zero, List.getElem_cons_succ, List.setIfInBounds_toArray, List.set_cons_zero, List.set_cons_succ]
        have hXY : q11.heap.size ≠ q0.heap.size := fun e => by
          have h1 := HX15.out
          have h2 := HY15.out
          rw [e] at h1
          have h3 := h1.symm.trans h2
          simp at h3
        have XX2 := Lib.hid (blk_set7 HX15.out (.int .i64 (s1.num : Int)) (.int .i64 (s1.most : Int)) (.int .i64 (s1.epoch : Int)) (.int .i64 (s1.size : Int)) (.bool s1.shut) (.slice l1 s1.idx.length c1) (.slice d1 ps1.length e1))
        have XY2 := Lib.hid (HY15.out.other7 hXY (.int .i64 (s1.num : Int)) (.int .i64 (s1.most : Int)) (.int .i64 (s1.epoch : Int)) (.int .i64 (s1.size : Int)) (.bool s1.shut) (.slice l1 s1.idx.length c1) (.slice d1 ps1.length e1))
        have XX3 := Lib.hid (XX2.out.other4 (fun e => hXY e.symm) (.int .u64 nk) (.int .u32 nc) (.bool ng) (.slice nx nL ncap))
        have XB2 := Lib.hid (below_set7 (g := q11.heap.size) (u0 := .int .i64 (s1.num : Int)) (u1 := .int .i64 (s1.most : Int)) (u2 := .int .i64 (s1.epoch : Int)) (u3 := .int .i64 (s1.size : Int)) (u4 := .bool s1.shut) (u5 := .slice l1 s1.idx.length c1) (u6 := .slice d1 ps1.length e1) HQ15.out GX.out)
        have XB3 := Lib.hid (below_set4 (g := q0.heap.size) (u0 := .int .u64 nk) (u1 := .int .u32 nc) (u2 := .bool ng) (u3 := .slice nx nL ncap) XB2.out GY.out)
        have XD3 := Lib.hid (HI.out.docX HD.out HDB.out LX.out LY.out (.int .i64 (s1.num : Int)) (.int .i64 (s1.most : Int)) (.int .i64 (s1.epoch : Int)) (.int .i64 (s1.size : Int)) (.bool s1.shut) (.slice l1 s1.idx.length c1) (.slice d1 ps1.length e1) (.int .u64 nk) (.int .u32 nc) (.bool ng) (.slice nx nL ncap))
        clear hXY
        have z0 := HX15.out.cell 0 rfl
        have z1 := HX15.out.cell 1 rfl
        have z2 := HX15.out.cell 2 rfl
        have z3 := HX15.out.cell 3 rfl
        have z4 := HX15.out.cell 4 rfl
        have z5 := HX15.out.cell 5 rfl
        have z6 := HX15.out.cell 6 rfl
        have zf := fun j => HX15.out.free j
        have r0 := XY2.out.cell 0 rfl
        have r1 := XY2.out.cell 1 rfl
        have r2 := XY2.out.cell 2 rfl
        have r3 := XY2.out.cell 3 rfl
        have rf := fun j => XY2.out.free j
        unfold set7 at XX2 XY2 XX3 XB2 XB3 XD3 r0 r1 r2 r3 rf
        unfold set4 at XX3 XB3 XD3
        refine AnyE.next (rs := [13]) (by kernel_rfl) (by simp) ?_
        refine AllE.cons rfl (fun K hK => ?_) AllE.nil
        go_simp
        refine hK.out _ _ (HS8.out _ XB2.out) (fun hHeld => ?_)
        clear hK K
        try simp only [Act.put, List.getElem_toArray, List.getElem_cons_zero, List.getElem_cons_succ, List.setIfInBounds_toArray, List.set_cons_zero, List.set_cons_succ]
        refine AnyE.next (rs := [14]) (by kernel_rfl) (by simp) ?_
        refine AllE.cons rfl (fun K hK => ?_) AllE.nil
        go_simp
        refine hK.out _ _ (HS8.out _ XB3.out) (fun hHeld => ?_)
        clear hK K
        try simp only [Act.put, List.getElem_toArray, List.getElem_cons_zero, List.getElem_cons_succ, List.setIfInBounds_toArray, List.set_cons_zero, List.set_cons_succ]
        clear z0 z1 z2 z3 z4 z5 z6 zf r0 r1 r2 r3 rf
        refine AnyE.take (i := 15) (v := ?_) rfl (by kernel_rfl) (by kernel_rfl) (by kernel_rfl) (by kernel_rfl) (fun _ _ _ h => h) (Or.inl ⟨by rfl, ?_⟩) (by assumption) ?_
        rotate_left 1
        · intro w hSw
          (try dsimp only at hSw)
          go_simp
          all_goals (with_reducible rfl)
        try simp only [Act.put, List.getElem_toArray, List.getElem_cons_zero, List.getElem_cons_succ, List.setIfInBounds_toArray, List.set_cons_zero, List.set_cons_succ]
        refine AnyE.next (rs := [16]) (by kernel_rfl) (by simp) ?_
        refine AllE.last rfl (fun K hK => ?_)
        go_simp
        refine hK.out _ _ ?_
        clear hK K
        try simp only [Act.put, List.getElem_toArray, List.getElem_cons_zero, List.getElem_cons_succ, List.setIfInBounds_toArray, List.set_cons_zero, List.set_cons_succ]
        refine AnyE.done (by kernel_rfl) ?_ _
        go_wp2_with fail
        go_meet
        exact ⟨q11.heap.size, l1, s1.idx.length, c1, d1, ps1.length, e1, ps1, by first | exact rfl | exact trivial, by first | exact rfl | exact trivial, rfl, rfl, GX.out, XB3, XD3, XX3⟩
      case rest =>
        obtain ⟨X, l1, I1, c1, d1, N1, ee1, ps1, rfl, rfl, hI1, hN1, hXr, HB, HD, HXb⟩ := hcut
        subst hI1
        subst hN1
        obtain ⟨a0, a1, a2, a3, a4, a5⟩ := HA.out _ HB.out
        go_wp2_with fail
        refine (HDV.out _ HB.out).mono ?_
        rintro e w6 ⟨mm, mx, mL, mc, kv, rfl, ht⟩
        obtain ⟨hX2, hV2, S', d', hI2⟩ := HSTEP.out _ _ X _ _ ps1 HB.out HD.out HXb.out hXr ht (.cells #[.int .u64 (mm.key : Int), .int .u32 (mm.cookie : Int), .bool mm.gone, .slice mx mL mc] 48)
        unfold set7 at hI2
        have HI2 := Lib.hid hI2
        clear a0 a1 a2 a3 a4 a5 ht hI2 HDR HDV HSTEP HA HV HB HD HXb
        have x0 := hX2.cell 0 rfl
        have v0 := hV2.cell 0 rfl
        have x1 := hX2.cell 1 rfl
        have v1 := hV2.cell 1 rfl
        have x2 := hX2.cell 2 rfl
        have v2 := hV2.cell 2 rfl
        have x3 := hX2.cell 3 rfl
        have v3 := hV2.cell 3 rfl
        have x4 := hX2.cell 4 rfl
        have v4 := hV2.cell 4 rfl
        have x5 := hX2.cell 5 rfl
        have v5 := hV2.cell 5 rfl
        have x6 := hX2.cell 6 rfl
        have v6 := hV2.cell 6 rfl
        have vf := fun j => hV2.free j
        clear hX2 hV2
        go_wp2
        go_roundw
        case rel => exact ⟨i + 1, kk + 10, S', d', s1, l1, c1, d1, ee1, ps1, by omega, by first | exact rfl | exact trivial, by first | exact rfl | simp, by rw [take_more HX.out]; exact HI2⟩
        case measure => simp [intOf] <;> omega
    · obtain rfl : N = i := by omega
      go_upto_region 12 with fail
      have hj := HI.out.drew
      obtain ⟨wt, hwt⟩ : ∃ wt, wr.drew = wt := ⟨_, rfl⟩
      rw [hwt] at hj
      have HJ := Lib.hid hj
      clear hj
      have HFI := Lib.hid (HJ.out.fin (.int .i64 (s.num : Int)) (.int .i64 (s.most : Int)) (.int .i64 (s.epoch : Int)) (.int .i64 (s.size : Int)) (.bool s.shut) (.slice lx I lc) (.slice dx PN dc))
      have HZF := Lib.hid (blk_set7 HJ.out.z (.int .i64 (s.num : Int)) (.int .i64 (s.most : Int)) (.int .i64 (s.epoch : Int)) (.int .i64 (s.size : Int)) (.bool s.shut) (.slice lx I lc) (.slice dx PN dc))
      have HVF := Lib.hid (HJ.out.v.other7 (fun e => HJ.out.ne e.symm) (.int .i64 (s.num : Int)) (.int .i64 (s.most : Int)) (.int .i64 (s.epoch : Int)) (.int .i64 (s.size : Int)) (.bool s.shut) (.slice lx I lc) (.slice dx PN dc))
      unfold set7 at HFI HZF HVF
      have z0 := HJ.out.z.cell 0 rfl
      have z1 := HJ.out.z.cell 1 rfl
      have z2 := HJ.out.z.cell 2 rfl
      have z3 := HJ.out.z.cell 3 rfl
      have z4 := HJ.out.z.cell 4 rfl
      have z5 := HJ.out.z.cell 5 rfl
      have z6 := HJ.out.z.cell 6 rfl
      have zf := fun j => HJ.out.z.free j
      refine AnyE.start (S := (fun wx => wx.cell? ⟨B1, 0, none⟩ = some (.int .i64 (s.num : Int)) ∧ wx.cell? ⟨B1, 1, none⟩ = some (.int .i64 (s.most : Int)) ∧ wx.cell? ⟨B1, 2, none⟩ = some (.int .i64 (s.epoch : Int)) ∧ wx.cell? ⟨B1, 3, none⟩ = some (.int .i64 (s.size : Int)) ∧ wx.cell? ⟨B1, 4, none⟩ = some (.bool s.shut) ∧ wx.cell? ⟨B1, 5, none⟩ = some (.slice lx I lc) ∧ wx.cell? ⟨B1, 6, none⟩ = some (.slice dx PN dc))) 5 (by kernel_rfl) (by rw [hwt]; exact ⟨HJ.out.v.cell 0 rfl, HJ.out.v.cell 1 rfl, HJ.out.v.cell 2 rfl, HJ.out.v.cell 3 rfl, HJ.out.v.cell 4 rfl, HJ.out.v.cell 5 rfl, HJ.out.v.cell 6 rfl⟩) (fun hHeld => ?_)
      rw [hwt] at hHeld
      rw [hwt]
      clear hwt
      refine AnyE.take (i := 0) (v := ?_) rfl (by kernel_rfl) (by kernel_rfl) (by kernel_rfl) (by kernel_rfl) (fun _ _ _ h => h) (Or.inl ⟨by rfl, ?_⟩) (by assumption) ?_
      rotate_left 1
      · intro w hSw
        (try dsimp only at hSw)
        go_simp
        all_goals (with_reducible rfl)
      try simp only [Act.put, List.getElem_toArray, List.getElem_cons_zero, List.getElem_cons_succ, List.setIfInBounds_toArray, List.set_cons_zero, List.set_cons_succ]
      refine AnyE.take (i := 1) (v := ?_) rfl (by kernel_rfl) (by kernel_rfl) (by kernel_rfl) (by kernel_rfl) (fun _ _ _ h => h) (Or.inl ⟨by rfl, ?_⟩) (by assumption) ?_
      rotate_left 1
      · intro w hSw
        (try dsimp only at hSw)
        go_simp
        all_goals (with_reducible rfl)
      try simp only [Act.put, List.getElem_toArray, List.getElem_cons_zero, List.getElem_cons_succ, List.setIfInBounds_toArray, List.set_cons_zero, List.set_cons_succ]
      refine AnyE.take (i := 2) (v := ?_) rfl (by kernel_rfl) (by kernel_rfl) (by kernel_rfl) (by kernel_rfl) (fun _ _ _ h => h) (Or.inl ⟨by rfl, ?_⟩) (by assumption) ?_
      rotate_left 1
      · intro w hSw
        (try dsimp only at hSw)
        go_simp
        all_goals (with_reducible rfl)
      try simp only [Act.put, List.getElem_toArray, List.getElem_cons_zero, List.getElem_cons_succ, List.setIfInBounds_toArray, List.set_cons_zero, List.set_cons_succ]
      refine AnyE.take (i := 3) (v := ?_) rfl (by kernel_rfl) (by kernel_rfl) (by kernel_rfl) (by kernel_rfl) (fun _ _ _ h => h) (Or.inl ⟨by rfl, ?_⟩) (by assumption) ?_
      rotate_left 1
      · intro w hSw
        (try dsimp only at hSw)
        go_simp
        all_goals (with_reducible rfl)
      try simp only [Act.put, List.getElem_toArray, List.getElem_cons_zero, List.getElem_cons_succ, List.setIfInBounds_toArray, List.set_cons_zero, List.set_cons_succ]
      refine AnyE.next (rs := [4]) (by kernel_rfl) (by simp) ?_
      refine AllE.cons rfl (fun K hK => ?_) AllE.nil
      go_simp
      refine hK.out _ _ (⟨HVF.out.cell 0 rfl, HVF.out.cell 1 rfl, HVF.out.cell 2 rfl, HVF.out.cell 3 rfl, HVF.out.cell 4 rfl, HVF.out.cell 5 rfl, HVF.out.cell 6 rfl⟩) (fun hHeld => ?_)
      clear hK K
      try simp only [Act.put, List.getElem_toArray, List.getElem_cons_zero, List.getElem_cons_succ, List.setIfInBounds_toArray, List.set_cons_zero, List.set_cons_succ]
      clear z0 z1 z2 z3 z4 z5 z6 zf
      refine AnyE.next (rs := [5]) (by kernel_rfl) (by simp) ?_
      refine AllE.last rfl (fun K hK => ?_)
      go_simp
      refine hK.out _ _ ?_
      clear hK K
      try simp only [Act.put, List.getElem_toArray, List.getElem_cons_zero, List.getElem_cons_succ, List.setIfInBounds_toArray, List.set_cons_zero, List.set_cons_succ]
      refine AnyE.done (by kernel_rfl) ?_ _
      have y0 := HZF.out.cell 0 rfl
      have y1 := HZF.out.cell 1 rfl
      have y2 := HZF.out.cell 2 rfl
      have y3 := HZF.out.cell 3 rfl
      have y4 := HZF.out.cell 4 rfl
      have y5 := HZF.out.cell 5 rfl
      have y6 := HZF.out.cell 6 rfl

      go_wp2
      obtain ⟨h1, h2, h3, h4, h5⟩ := HFI.out
      exact bodyPost_ret (v := .tuple #[.pointer (some ⟨g, 0, none⟩), .agg #[.int .i64 (s.num : Int), .int .i64 (s.most : Int), .int .i64 (s.epoch : Int), .int .i64 (s.size : Int), .bool s.shut, .slice lx I lc, .slice dx PN dc], .bool true]) (by simp [results, Tryz.results11, go_sem, y0, y1, y2, y3, y4, y5, y6]) rfl ⟨g, p, S, d, kk, s, .slice lx I lc, .slice dx PN dc, ps, rfl, h1, h2, h3, h4, by rw [List.take_of_length_le (by rw [HN.out]; exact Nat.le_refl _)] at h5; first | exact h5 | (rw [HN.out]; exact h5)⟩

end Go.Proofs.YtoblbipkkdiddaaGreatDoor
end
