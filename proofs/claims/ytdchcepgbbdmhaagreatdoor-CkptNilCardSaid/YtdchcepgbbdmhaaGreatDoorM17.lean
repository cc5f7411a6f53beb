/- Ckr, Cke, Ckf, Ckw, Cks, Law10i, Law10a, Law10n, Wf, OpenX, Open10. -/
import Derived.Test.YtdchcepgbbdmhaaGreatDoorM15
import Derived.Test.YtdchcepgbbdmhaaGreatDoorM16
import Derived.Test.YtdchcepgbbdmhaaGreatDoorM1
import Derived.Lib.SmallJoins
import Derived.ProofKit
import Derived.Test.YtdchcepgbbdmhaaGreatDoorChecked
import Derived.Test.YtdchcepgbbdmhaaGreatDoorM12

section
namespace Go.Proofs.YtdchcepgbbdmhaaGreatDoor
open Go.RowKit Go.Cor

/-- The checkpoint of a volume. -/
abbrev chkV (s : Vst) : Ck.Chk := ⟨(s.num : Int), (s.gen : Int), (s.size : Int), s.idx⟩
theorem idx_pcan {s : Vst} (h : s.Ok) {p : Pos} (hp : p ∈ s.idx) : Ck.pcan p = true ∧ p.fits := by
  obtain ⟨a, n, b, he, rfl⟩ := s.idx_mem hp
  obtain ⟨hf, hc⟩ := h.all n (by rw [he]; simp)
  have h1 := h.size
  have h2 := h.most
  have h3 : s.size = 16 + tot s.ns := rfl
  rw [he, tot_append] at h3
  simp only [tot] at h3
  have h4 : nlen n = 32 + n.data.length + padn n.data.length := rfl
  obtain ⟨h5, h6⟩ : n.data.length ≤ 4096 ∧ (n.gone = true → n.data.length = 0) := by
    unfold ncheck at hc
    constructor
    · by_cases e : 4096 < n.data.length
      · simp [e] at hc
      · omega
    · intro hg
      by_cases e : 4096 < n.data.length
      · simp [e] at hc
      · by_cases e2 : n.data.length = 0
        · exact e2
        · simp [e, hg, e2] at hc
  unfold posN Ck.pcan Pos.fits
  refine ⟨decide_eq_true ⟨by dsimp only; omega, by dsimp only; omega, by dsimp only; omega, by dsimp only; omega, fun hg => by dsimp only at hg ⊢; have := h6 hg; omega⟩, hf.1, hf.2, ⟨by dsimp only; omega, by dsimp only; omega⟩, ⟨by dsimp only; omega, by dsimp only; omega⟩⟩
theorem chk_right {s : Vst} (h : s.Ok) : Ck.cright (chkV s) = 0 := by
  unfold Ck.cright
  have hl : s.idx.length ≤ 4096 := by have := s.idx_len; have := h.few; omega
  rw [if_neg (by show ¬ 4096 < s.idx.length; omega)]
  have h1 := h.num1
  have h2 := h.num9
  have h3 := h.gen1
  have h4 := h.gen9
  have h5 := h.size
  have h6 := h.most
  have hh : Ck.hOk (s.num : Int) (s.gen : Int) (s.size : Int) = true := decide_eq_true (by omega)
  rw [if_neg (by show ¬ Ck.hOk (s.num : Int) (s.gen : Int) (s.size : Int) = false; rw [hh]; simp)]
  have hlo : Ck.lOk s.idx = true := Ck.lOk_of fun i hi => by
    unfold Ck.pOk
    rw [(idx_pcan h (p := pat s.idx i) (List.mem_of_getElem? (get_pat hi))).1, Bool.true_and]
    unfold Ck.kOk
    refine decide_eq_true ?_
    by_cases e : i = 0
    · exact .inl e
    · right
      have ha := List.pairwise_iff_getElem.1 s.idx_asc (i - 1) i (by omega) hi (by omega)
      have g1 : pat s.idx (i - 1) = s.idx[i - 1]'(by omega) := by simp [pat, List.getD_eq_getElem?_getD, List.getElem?_eq_getElem (show i - 1 < s.idx.length by omega)]
      have g2 : pat s.idx i = s.idx[i] := by simp [pat, List.getD_eq_getElem?_getD, List.getElem?_eq_getElem hi]
      rw [g1, g2]
      exact ha
  rw [if_neg (by show ¬ Ck.lOk s.idx = false; rw [hlo]; simp)]
theorem chk_len (s : Vst) : (Ck.cbytes (chkV s)).length = 24 + 24 * s.idx.length := by
  have := Ck.length_cbytes (chkV s)
  omega

end Go.Proofs.YtdchcepgbbdmhaaGreatDoor
end

section
namespace Go.Proofs.YtdchcepgbbdmhaaGreatDoor
open Go.RowKit Go.Cor

theorem isP_ck {w : World} {v : Value} {ps : List Pos} (h : Q.IsP w v ps) : Ck.IsP w v ps := by
  obtain ⟨a, cap, rfl, h1, h2, _, _, h3⟩ := h
  refine ⟨a, cap, rfl, h1, h2, h3.imp id ?_⟩
  rintro ⟨b, off, rfl, hc⟩
  exact ⟨b, off, rfl, fun i hi => Q.pcells_at hi (fun j hj => by rw [Nat.add_assoc]; exact hc (i * 5 + j) (by omega))⟩
theorem ckput_ok (s : Vst) (lv : Value) (w : World) (hok : s.Ok) (hp : Q.IsP w lv s.idx) :
    Calls Tryz.prog 87 #[.agg #[.int .i64 (s.num : Int), .int .i64 (s.gen : Int), .int .i64 (s.size : Int), lv]] w (fun e w' => ∃ gb cap, e = .returned (.tuple #[.slice (some ⟨gb, 0, none⟩) (Ck.cbytes (chkV s)).length cap, .nilIface]) ∧ w'.ownsRow w.heap.size 5 1 (.slice (some ⟨gb, 0, none⟩) (Ck.cbytes (chkV s)).length cap) (Ck.cbytes (chkV s)).length (bvs (Ck.cbytes (chkV s))) ∧ Below w.heap.size w w') :=
  Ck.put_okC (chkV s) lv w (isP_ck hp) (fun p hp => (idx_pcan hok hp).2) (chk_right hok)
set_option maxRecDepth 100000 in
set_option maxHeartbeats 2000000 in
theorem ckwrite (q p g k : Nat) (S : Nat → Prop) (d : Dsk) (s : Vst) (lv : Value) (w : World) (h : StepR w g p q S d k s 2 lv s.idx) :
    Calls Tryz.prog 53 #[.pointer (some ⟨q, 0, none⟩)] w fun e w' => e = .returned (cerr (d.append (nmC s.num 0) (Ck.cbytes (chkV s))).2) ∧ StepT w w' g p q S (d.append (nmC s.num 0) (Ck.cbytes (chkV s))).1 (k + 2) s 2 (s.num : Int) (s.gen : Int) (s.size : Int) lv s.idx := by
  have hok : s.Ok := by obtain ⟨S', h1⟩ := h.ready (Below.refl w.heap.size w); exact h1.ok
  have hnum := hok.num9
  have hfew : k + 12 ≤ 90000 := by obtain ⟨S', h1⟩ := h.ready (Below.refl w.heap.size w); exact h1.few
  have hcl := chk_len s
  have hil := s.idx_len
  have hsf := hok.few
  obtain ⟨l, hl⟩ : ∃ l, Ck.cbytes (chkV s) = l := ⟨_, rfl⟩
  have hput := ckput_ok s lv w hok h.at_.isP
  rw [hl] at hput
  have HPUT := Lib.hid hput
  clear hput
  rw [hl] at hcl ⊢
  obtain ⟨L, hL⟩ : ∃ L, l.length = L := ⟨_, rfl⟩
  rw [hL] at hcl HPUT
  have HL := Lib.hid hL
  have HT0 := Lib.hid h.at_
  have x3 : w.cell? ⟨q, 3, none⟩ = some (.int .i64 (s.num : Int)) := HT0.out.blk.cell 3 rfl
  have x4 : w.cell? ⟨q, 4, none⟩ = some (.int .i64 (s.gen : Int)) := HT0.out.blk.cell 4 rfl
  have x5 : w.cell? ⟨q, 5, none⟩ = some (.int .i64 (s.size : Int)) := HT0.out.blk.cell 5 rfl
  have x6 : w.cell? ⟨q, 6, none⟩ = some lv := HT0.out.blk.cell 6 rfl
  obtain ⟨lx, lc, hlv, _, _⟩ := IsX.slice HT0.out.isP
  subst hlv
  obtain ⟨I, hI⟩ : ∃ I, s.idx.length = I := ⟨_, rfl⟩
  rw [hI] at HPUT HT0 x6 hcl hil ⊢
  obtain ⟨r, hr⟩ : ∃ r, cerr (d.append (nmC s.num 0) l).2 = r := ⟨_, rfl⟩
  obtain ⟨dd, hdd⟩ : ∃ dd, (d.append (nmC s.num 0) l).1 = dd := ⟨_, rfl⟩
  rw [hr, hdd]
  have HRR := Lib.hid hr
  have HDD := Lib.hid hdd
  clear hdd
  have HCL := Lib.hid hcl
  have HIL := Lib.hid hil
  clear h hl hok hL hI hr hcl hil
  go_enter Tryz.func53, Tryz.ntmps53
  go_wp2_with fail
  refine HPUT.out.mono ?_
  rintro e w1 ⟨gb, cap, rfl, hown, hb⟩
  have HT1 := Lib.hid (HT0.out.below hb)
  have HI1 := Lib.hid (IsB.own hown HL.out.symm)
  clear hown hb x3 x4 x5 x6 HPUT
  go_upto_region 4 with fail
  have HT2 := Lib.hid (HT1.out.below (Below.refl w1.heap.size w1).drew)
  obtain ⟨Sd, hd, hnq, hly, hnext⟩ := HT2.out.deed
  have HCR := Lib.hid (show Calls Tryz.prog 12 #[.pointer (some ⟨p, 0, none⟩), .string (nmC s.num 0), .slice (some ⟨gb, 0, none⟩) L cap] w1.drew (fun e w' => e = .returned r ∧ StepT w w' g p q S dd (k + 2) s 2 (s.num : Int) (s.gen : Int) (s.size : Int) (.slice lx I lc) s.idx) by
    refine (append_u w1.drew p Sd d k (nmC s.num 0) _ l hd (by omega) (HI1.out.mono (Below.refl w1.heap.size w1).drew (Nat.le_refl _)) (by have := HL.out; have := HCL.out; have := HIL.out; omega)).mono ?_
    rintro e w' ⟨rfl, ht⟩
    rw [HDD.out] at ht
    exact ⟨by rw [HRR.out], hnext _ _ _ ht⟩)
  clear hd hnq hly hnext
  refine wp_region_held_drew (S := (fun wx => wx.cell? ⟨q, 0, none⟩ = some (.pointer (some ⟨p, 0, none⟩)))) (by kernel_rfl) (HT2.out.blk.cell 0 rfl) (fun hHeld => ?_)
  refine wpAnyH_take (i := 0) (v := ?_) rfl (by kernel_rfl) (by kernel_rfl) (by kernel_rfl) (fun _ _ _ h => h) (Or.inl ⟨by rfl, ?_⟩) (by assumption) ?_
  rotate_left 1
  · intro w hSw
    (try dsimp only at hSw)
    go_simp
    all_goals (with_reducible rfl)
  try simp only [Act.put, List.getElem_toArray, List.getElem_cons_zero, List.getElem_cons_succ, List.setIfInBounds_toArray, List.set_cons_zero, List.set_cons_succ]
  refine wpAnyH_take (i := 1) (v := ?_) rfl (by kernel_rfl) (by kernel_rfl) (by kernel_rfl) (fun _ _ _ h => h) (Or.inl ⟨by rfl, ?_⟩) (by assumption) ?_
  rotate_left 1
  · intro w hSw
    (try dsimp only at hSw)
    go_simp
    all_goals (with_reducible rfl)
  try simp only [Act.put, List.getElem_toArray, List.getElem_cons_zero, List.getElem_cons_succ, List.setIfInBounds_toArray, List.set_cons_zero, List.set_cons_succ]
  refine wpAnyH_take (i := 2) (v := ?_) rfl (by kernel_rfl) (by kernel_rfl) (by kernel_rfl) (fun _ _ _ h => h) (Or.inl ⟨by rfl, ?_⟩) (by assumption) ?_
  rotate_left 1
  · intro w hSw
    (try dsimp only at hSw)
    go_simp
    all_goals (with_reducible rfl)
  try simp only [Act.put, List.getElem_toArray, List.getElem_cons_zero, List.getElem_cons_succ, List.setIfInBounds_toArray, List.set_cons_zero, List.set_cons_succ]
  refine wpAnyH_take (i := 3) (v := ?_) rfl (by kernel_rfl) (by kernel_rfl) (by kernel_rfl) (fun _ _ _ h => h) (Or.inl ⟨by rfl, ?_⟩) (by assumption) ?_
  rotate_left 1
  · intro w hSw
    (try dsimp only at hSw)
    go_simp
    all_goals (with_reducible rfl)
  try simp only [Act.put, List.getElem_toArray, List.getElem_cons_zero, List.getElem_cons_succ, List.setIfInBounds_toArray, List.set_cons_zero, List.set_cons_succ]
  refine wpAnyH_take (i := 4) (v := ?_) rfl (by kernel_rfl) (by kernel_rfl) (by kernel_rfl) (fun _ _ _ h => h) (Or.inl ⟨by rfl, ?_⟩) (by assumption) ?_
  rotate_left 1
  · intro w hSw
    (try dsimp only at hSw)
    go_simp
    all_goals (with_reducible rfl)
  try simp only [Act.put, List.getElem_toArray, List.getElem_cons_zero, List.getElem_cons_succ, List.setIfInBounds_toArray, List.set_cons_zero, List.set_cons_succ]
  refine wpAnyH_take (i := 6) (v := ?_) rfl (by kernel_rfl) (by kernel_rfl) (by kernel_rfl) (fun _ _ _ h => h) (Or.inl ⟨by rfl, ?_⟩) (by assumption) ?_
  rotate_left 1
  · intro w hSw
    (try dsimp only at hSw)
    go_simp
    all_goals (with_reducible rfl)
  try simp only [Act.put, List.getElem_toArray, List.getElem_cons_zero, List.getElem_cons_succ, List.setIfInBounds_toArray, List.set_cons_zero, List.set_cons_succ]
  refine wpAnyH_ready (rs := [5]) (by kernel_rfl) (by simp) ?_
  refine AllReadyH.cons rfl (fun K hK => ?_) AllReadyH.nil
  go_simp
  refine (ckfile0 q p g s.num 2 (s.gen : Int) (s.size : Int) (.slice lx I lc) _ HT2.out.blk hnum).mono ?_
  rintro e w5 ⟨rfl, rfl⟩
  refine hK.out _ _ (HT2.out.blk.cell 0 rfl) (fun hHeld => ?_)
  clear hK K
  try simp only [Act.put, List.getElem_toArray, List.getElem_cons_zero, List.getElem_cons_succ, List.setIfInBounds_toArray, List.set_cons_zero, List.set_cons_succ]
  refine wpAnyH_ready (rs := [7]) (by kernel_rfl) (by simp) ?_
  refine AllReadyH.cons rfl (fun K hK => ?_) AllReadyH.nil
  go_simp
  refine HCR.out.mono ?_
  rintro e w6 ⟨rfl, ht⟩
  have HT6 := Lib.hid ht
  clear ht
  refine hK.out _ _ (HT6.out.blk.cell 0 rfl) (fun hHeld => ?_)
  clear hK K
  try simp only [Act.put, List.getElem_toArray, List.getElem_cons_zero, List.getElem_cons_succ, List.setIfInBounds_toArray, List.set_cons_zero, List.set_cons_succ]
  refine wpAnyH_take (i := 8) (v := ?_) rfl (by kernel_rfl) (by kernel_rfl) (by kernel_rfl) (fun _ _ _ h => h) (Or.inl ⟨by rfl, ?_⟩) (by assumption) ?_
  rotate_left 1
  · intro w hSw
    (try dsimp only at hSw)
    go_simp
    all_goals (with_reducible rfl)
  try simp only [Act.put, List.getElem_toArray, List.getElem_cons_zero, List.getElem_cons_succ, List.setIfInBounds_toArray, List.set_cons_zero, List.set_cons_succ]
  refine wpAnyH_done (by kernel_rfl) ?_ _
  go_wp2
  go_ret
  exact ⟨rfl, HT6.out⟩

end Go.Proofs.YtdchcepgbbdmhaaGreatDoor
end

section
namespace Go.Proofs.YtdchcepgbbdmhaaGreatDoor
open Go.RowKit Go.Cor

set_option maxRecDepth 100000 in
set_option maxHeartbeats 2000000 in
theorem step_fill (q p g k : Nat) (S : Nat → Prop) (d : Dsk) (s : Vst) (lv : Value) (w : World) (h : StepR w g p q S d k s 2 lv s.idx) :
    Calls Tryz.prog 21 #[.pointer (some ⟨q, 0, none⟩)] w fun e w' => e = .returned (cerr (d.append (nmC s.num 0) (Ck.cbytes (chkV s))).2) ∧ StepT w w' g p q S (d.append (nmC s.num 0) (Ck.cbytes (chkV s))).1 (k + 2) s 3 (s.num : Int) (s.gen : Int) (s.size : Int) lv s.idx := by
  have hnum : s.num < 10 := by obtain ⟨S', h1⟩ := h.ready (Below.refl w.heap.size w); exact h1.ok.num9
  have hgen : s.gen < 10 := by obtain ⟨S', h1⟩ := h.ready (Below.refl w.heap.size w); exact h1.ok.gen9
  have hfew : k + 12 ≤ 90000 := by obtain ⟨S', h1⟩ := h.ready (Below.refl w.heap.size w); exact h1.few
  have hf0 : Fs d k := by obtain ⟨S', h1⟩ := h.ready (Below.refl w.heap.size w); exact h1.lies.fs
  have HT0 := Lib.hid (h.at_.below (Below.refl w.heap.size w).drew)
  have HINF := Lib.hid (show Calls Tryz.prog 29 #[.pointer (some ⟨g, 0, none⟩)] w.drew (fun r w' => r = .returned (infoV s) ∧ Below w.drew.heap.size w.drew w') by
    obtain ⟨S', h1⟩ := h.ready (Below.refl w.heap.size w).drew
    exact info_v g p k S' d s _ h1)
  unfold infoV at HINF
  have hfld := fun W => Tryz.infoGen (.int .i64 (s.num : Int)) (.int .i64 (s.gen : Int)) (.int .i64 (s.epoch : Int)) (.int .i64 (s.size : Int)) (.int .i64 ((s.idx.length : Int) - (Q.goneN s.idx : Int))) (.int .i64 (Q.goneN s.idx : Int)) (.bool s.shut) W rfl
  have HCW := Lib.hid (fun wx (hx : StepT w wx g p q S d k s 2 (s.num : Int) (s.gen : Int) (s.size : Int) lv s.idx) => (show Calls Tryz.prog 53 #[.pointer (some ⟨q, 0, none⟩)] wx (fun e w' => e = .returned (cerr (d.append (nmC s.num 0) (Ck.cbytes (chkV s))).2) ∧ StepT w w' g p q S (d.append (nmC s.num 0) (Ck.cbytes (chkV s))).1 (k + 2) s 2 (s.num : Int) (s.gen : Int) (s.size : Int) lv s.idx) by
    obtain ⟨S', x1, x2, x3, x4, x5, x6, x7⟩ := hx
    have hR : StepR wx g p q S' d k s 2 lv s.idx := ⟨⟨S', x1, Kept.refl _ _, fun b hb => .inl hb, x4, x5, x6, x7⟩, fun S2 hv => by
      obtain ⟨S0, h1⟩ := h.ready (Below.refl w.heap.size w)
      exact ⟨hv, h1.lies, h1.ok, h1.few, h1.names⟩⟩
    refine (ckwrite q p g k S' d s lv wx hR).mono ?_
    rintro e w' ⟨rfl, S2, y1, y2, y3, y4, y5, y6, y7⟩
    have hs1 := x2.size
    refine ⟨rfl, S2, y1, x2.trans y2 (fun j hj hl => ?_), fun b hb => ?_, y4, y5, y6, y7⟩
    · rcases hj with hj | hj
      · rcases x3 j hj with e | e
        · exact .inl e
        · omega
      · exact .inr hj
    · rcases y3 b hb with e | e
      · exact x3 b e
      · exact .inr (by omega)))
  obtain ⟨r, hr⟩ : ∃ r, cerr (d.append (nmC s.num 0) (Ck.cbytes (chkV s))).2 = r := ⟨_, rfl⟩
  obtain ⟨dd, hdd⟩ : ∃ dd, (d.append (nmC s.num 0) (Ck.cbytes (chkV s))).1 = dd := ⟨_, rfl⟩
  rw [hr, hdd] at HCW
  rw [hr, hdd]
  clear h hf0 hr hdd
  go_enter Tryz.func21, Tryz.ntmps21
  go_upto_region 1 with fail
  refine wp_region_held_drew (S := (fun wx => wx.cell? ⟨q, 1, none⟩ = some (.pointer (some ⟨g, 0, none⟩)) ∧ wx.cell? ⟨q, 2, none⟩ = some (.int .i64 2) ∧ wx.cell? ⟨q, 4, none⟩ = some (.int .i64 (s.gen : Int)))) (by kernel_rfl) (⟨HT0.out.blk.cell 1 rfl, HT0.out.blk.cell 2 rfl, HT0.out.blk.cell 4 rfl⟩) (fun hHeld => ?_)
  refine wpAnyH_take (i := 0) (v := ?_) rfl (by kernel_rfl) (by kernel_rfl) (by kernel_rfl) (fun _ _ _ h => h) (Or.inl ⟨by rfl, ?_⟩) (by assumption) ?_
  rotate_left 1
  · intro w hSw
    (try dsimp only at hSw)
    go_simp
    all_goals (with_reducible rfl)
  try simp only [Act.put, List.getElem_toArray, List.getElem_cons_zero, List.getElem_cons_succ, List.setIfInBounds_toArray, List.set_cons_zero, List.set_cons_succ]
  refine wpAnyH_take (i := 1) (v := ?_) rfl (by kernel_rfl) (by kernel_rfl) (by kernel_rfl) (fun _ _ _ h => h) (Or.inl ⟨by rfl, ?_⟩) (by assumption) ?_
  rotate_left 1
  · intro w hSw
    (try dsimp only at hSw)
    go_simp
    all_goals (with_reducible rfl)
  try simp only [Act.put, List.getElem_toArray, List.getElem_cons_zero, List.getElem_cons_succ, List.setIfInBounds_toArray, List.set_cons_zero, List.set_cons_succ]
  refine wpAnyH_take (i := 2) (v := ?_) rfl (by kernel_rfl) (by kernel_rfl) (by kernel_rfl) (fun _ _ _ h => h) (Or.inl ⟨by rfl, ?_⟩) (by assumption) ?_
  rotate_left 1
  · intro w hSw
    (try dsimp only at hSw)
    go_simp
    all_goals (with_reducible rfl)
  try simp only [Act.put, List.getElem_toArray, List.getElem_cons_zero, List.getElem_cons_succ, List.setIfInBounds_toArray, List.set_cons_zero, List.set_cons_succ]
  refine wpAnyH_take (i := 3) (v := ?_) rfl (by kernel_rfl) (by kernel_rfl) (by kernel_rfl) (fun _ _ _ h => h) (Or.inl ⟨by rfl, ?_⟩) (by assumption) ?_
  rotate_left 1
  · intro w hSw
    (try dsimp only at hSw)
    go_simp
    all_goals (with_reducible rfl)
  try simp only [Act.put, List.getElem_toArray, List.getElem_cons_zero, List.getElem_cons_succ, List.setIfInBounds_toArray, List.set_cons_zero, List.set_cons_succ]
  refine wpAnyH_take (i := 4) (v := ?_) rfl (by kernel_rfl) (by kernel_rfl) (by kernel_rfl) (fun _ _ _ h => h) (Or.inl ⟨by rfl, ?_⟩) (by assumption) ?_
  rotate_left 1
  · intro w hSw
    (try dsimp only at hSw)
    go_simp
    all_goals (with_reducible rfl)
  try simp only [Act.put, List.getElem_toArray, List.getElem_cons_zero, List.getElem_cons_succ, List.setIfInBounds_toArray, List.set_cons_zero, List.set_cons_succ]
  refine wpAnyH_take (i := 5) (v := ?_) rfl (by kernel_rfl) (by kernel_rfl) (by kernel_rfl) (fun _ _ _ h => h) (Or.inl ⟨by rfl, ?_⟩) (by assumption) ?_
  rotate_left 1
  · intro w hSw
    (try dsimp only at hSw)
    go_simp
    all_goals (with_reducible rfl)
  try simp only [Act.put, List.getElem_toArray, List.getElem_cons_zero, List.getElem_cons_succ, List.setIfInBounds_toArray, List.set_cons_zero, List.set_cons_succ]
  refine wpAnyH_take (i := 6) (v := ?_) rfl (by kernel_rfl) (by kernel_rfl) (by kernel_rfl) (fun _ _ _ h => h) (Or.inl ⟨by rfl, ?_⟩) (by assumption) ?_
  rotate_left 1
  · intro w hSw
    (try dsimp only at hSw)
    go_simp
    all_goals (with_reducible rfl)
  try simp only [Act.put, List.getElem_toArray, List.getElem_cons_zero, List.getElem_cons_succ, List.setIfInBounds_toArray, List.set_cons_zero, List.set_cons_succ]
  refine wpAnyH_take (i := 7) (v := ?_) rfl (by kernel_rfl) (by kernel_rfl) (by kernel_rfl) (fun _ _ _ h => h) (Or.inl ⟨by rfl, ?_⟩) (by assumption) ?_
  rotate_left 1
  · intro w hSw
    (try dsimp only at hSw)
    go_simp
    all_goals (with_reducible rfl)
  try simp only [Act.put, List.getElem_toArray, List.getElem_cons_zero, List.getElem_cons_succ, List.setIfInBounds_toArray, List.set_cons_zero, List.set_cons_succ]
  refine wpAnyH_take (i := 8) (v := ?_) rfl (by kernel_rfl) (by kernel_rfl) (by kernel_rfl) (fun _ _ _ h => h) (Or.inl ⟨by rfl, ?_⟩) (by assumption) ?_
  rotate_left 1
  · intro w hSw
    (try dsimp only at hSw)
    go_simp
    all_goals (with_reducible rfl)
  try simp only [Act.put, List.getElem_toArray, List.getElem_cons_zero, List.getElem_cons_succ, List.setIfInBounds_toArray, List.set_cons_zero, List.set_cons_succ]
  refine wpAnyH_take (i := 9) (v := ?_) rfl (by kernel_rfl) (by kernel_rfl) (by kernel_rfl) (fun _ _ _ h => h) (Or.inl ⟨by rfl, ?_⟩) (by assumption) ?_
  rotate_left 1
  · intro w hSw
    (try dsimp only at hSw)
    go_simp
    all_goals (with_reducible rfl)
  try simp only [Act.put, List.getElem_toArray, List.getElem_cons_zero, List.getElem_cons_succ, List.setIfInBounds_toArray, List.set_cons_zero, List.set_cons_succ]
  refine wpAnyH_take (i := 12) (v := ?_) rfl (by kernel_rfl) (by kernel_rfl) (by kernel_rfl) (fun _ _ _ h => h) (Or.inl ⟨by rfl, ?_⟩) (by assumption) ?_
  rotate_left 1
  · intro w hSw
    (try dsimp only at hSw)
    go_simp
    all_goals (with_reducible rfl)
  try simp only [Act.put, List.getElem_toArray, List.getElem_cons_zero, List.getElem_cons_succ, List.setIfInBounds_toArray, List.set_cons_zero, List.set_cons_succ]
  refine wpAnyH_take (i := 13) (v := ?_) rfl (by kernel_rfl) (by kernel_rfl) (by kernel_rfl) (fun _ _ _ h => h) (Or.inl ⟨by rfl, ?_⟩) (by assumption) ?_
  rotate_left 1
  · intro w hSw
    (try dsimp only at hSw)
    go_simp
    all_goals (with_reducible rfl)
  try simp only [Act.put, List.getElem_toArray, List.getElem_cons_zero, List.getElem_cons_succ, List.setIfInBounds_toArray, List.set_cons_zero, List.set_cons_succ]
  refine wpAnyH_take (i := 14) (v := ?_) rfl (by kernel_rfl) (by kernel_rfl) (by kernel_rfl) (fun _ _ _ h => h) (Or.inl ⟨by rfl, ?_⟩) (by assumption) ?_
  rotate_left 1
  · intro w hSw
    (try dsimp only at hSw)
    go_simp
    all_goals (with_reducible rfl)
  try simp only [Act.put, List.getElem_toArray, List.getElem_cons_zero, List.getElem_cons_succ, List.setIfInBounds_toArray, List.set_cons_zero, List.set_cons_succ]
  refine wpAnyH_take (i := 15) (v := ?_) rfl (by kernel_rfl) (by kernel_rfl) (by kernel_rfl) (fun _ _ _ h => h) (Or.inl ⟨by rfl, ?_⟩) (by assumption) ?_
  rotate_left 1
  · intro w hSw
    (try dsimp only at hSw)
    go_simp
    all_goals (with_reducible rfl)
  try simp only [Act.put, List.getElem_toArray, List.getElem_cons_zero, List.getElem_cons_succ, List.setIfInBounds_toArray, List.set_cons_zero, List.set_cons_succ]
  refine wpAnyH_take (i := 16) (v := ?_) rfl (by kernel_rfl) (by kernel_rfl) (by kernel_rfl) (fun _ _ _ h => h) (Or.inl ⟨by rfl, ?_⟩) (by assumption) ?_
  rotate_left 1
  · intro w hSw
    (try dsimp only at hSw)
    go_simp
    all_goals (with_reducible rfl)
  try simp only [Act.put, List.getElem_toArray, List.getElem_cons_zero, List.getElem_cons_succ, List.setIfInBounds_toArray, List.set_cons_zero, List.set_cons_succ]
  refine wpAnyH_ready (rs := [10]) (by kernel_rfl) (by simp) ?_
  refine AllReadyH.cons rfl (fun K hK => ?_) AllReadyH.nil
  go_simp
  refine HINF.out.mono ?_
  rintro e w1 ⟨rfl, hb⟩
  have HT1 := Lib.hid (HT0.out.below hb)
  clear hb HINF
  refine hK.out _ _ (⟨HT1.out.blk.cell 1 rfl, HT1.out.blk.cell 2 rfl, HT1.out.blk.cell 4 rfl⟩) (fun hHeld => ?_)
  clear hK K
  try simp only [Act.put, List.getElem_toArray, List.getElem_cons_zero, List.getElem_cons_succ, List.setIfInBounds_toArray, List.set_cons_zero, List.set_cons_succ]
  refine wpAnyH_take (i := 11) (v := ?_) rfl (by kernel_rfl) (by kernel_rfl) (by kernel_rfl) (fun _ _ _ h => h) (Or.inl ⟨by rfl, ?_⟩) (by assumption) ?_
  rotate_left 1
  · intro w hSw
    (try dsimp only at hSw)
    go_simp
    all_goals (with_reducible rfl)
  try simp only [Act.put, List.getElem_toArray, List.getElem_cons_zero, List.getElem_cons_succ, List.setIfInBounds_toArray, List.set_cons_zero, List.set_cons_succ]
  refine wpAnyH_take (i := 17) (v := ?_) rfl (by kernel_rfl) (by kernel_rfl) (by kernel_rfl) (fun _ _ _ h => h) (Or.inl ⟨by rfl, ?_⟩) (by assumption) ?_
  rotate_left 1
  · intro w hSw
    (try dsimp only at hSw)
    go_simp
    all_goals (with_reducible rfl)
  try simp only [Act.put, List.getElem_toArray, List.getElem_cons_zero, List.getElem_cons_succ, List.setIfInBounds_toArray, List.set_cons_zero, List.set_cons_succ]
  refine wpAnyH_take (i := 18) (v := ?_) rfl (by kernel_rfl) (by kernel_rfl) (by kernel_rfl) (fun _ _ _ h => h) (Or.inl ⟨by rfl, ?_⟩) (by assumption) ?_
  rotate_left 1
  · intro w hSw
    (try dsimp only at hSw)
    go_simp
    all_goals (with_reducible rfl)
  try simp only [Act.put, List.getElem_toArray, List.getElem_cons_zero, List.getElem_cons_succ, List.setIfInBounds_toArray, List.set_cons_zero, List.set_cons_succ]
  refine wpAnyH_done (by kernel_rfl) ?_ _
  have x2 : w1.cell? ⟨q, 2, none⟩ = some (.int .i64 2) := HT1.out.blk.cell 2 rfl
  go_wp2_with fail
  refine (HCW.out _ HT1.out).mono ?_
  rintro e w6 ⟨rfl, ht⟩
  have HT6 := Lib.hid ht
  clear ht HT0 HT1 HCW x2
  have x2 : w6.cell? ⟨q, 2, none⟩ = some (.int .i64 2) := HT6.out.blk.cell 2 rfl
  have xf := fun j => HT6.out.blk.free j
  have HT7 := Lib.hid (HT6.out.turn 3)
  clear HT6
  go_wp2
  go_ret
  exact ⟨rfl, HT7.out⟩

end Go.Proofs.YtdchcepgbbdmhaaGreatDoor
end

section
namespace Go.Proofs.YtdchcepgbbdmhaaGreatDoor
open Go.RowKit Go.Cor

/-- The writer's positions dropped. -/
theorem StepT.drop {w w1 : World} {g p q : Nat} {S : Nat → Prop} {d' : Dsk} {k' : Nat} {s : Vst} {nx vn gn up : Int} {lv : Value} {ps : List Pos} (h : StepT w w1 g p q S d' k' s nx vn gn up lv ps) : StepT w (w1.setCell ⟨q, 6, none⟩ (.slice none 0 0)) g p q S d' k' s nx vn gn up (.slice none 0 0) [] := by
  obtain ⟨S', h1, h2, h3, h4, h5, h6, h7⟩ := h
  have hk : Kept (fun b => b = q) w1 (w1.setCell ⟨q, 6, none⟩ (.slice none 0 0)) := (Kept.refl (fun b => b = q) w1).setCell (.inl rfl) _
  exact ⟨S', h1.kept hk (fun b hb e => h4 (e ▸ hb)), h2.trans hk (fun j e _ => .inr e), h3, h4, by have := h5.set 6 (.slice none 0 0); exact this, Q.IsP.nil _, fun b hb => absurd rfl hb.1⟩

set_option maxRecDepth 100000 in
set_option maxHeartbeats 1000000 in
theorem stepw_first (q p g k : Nat) (S : Nat → Prop) (s : Vst) (vn gn up : Int) (I : Nat) (ps : List Pos) (w : World) (hc : w.cell? ⟨q, 2, none⟩ = some (.int .i64 0)) (R : Dsk → Prop)
    (hs : Calls Tryz.prog 21 #[.pointer (some ⟨q, 0, none⟩)] w fun e w' => ∃ d' lx lc, e = .returned .nilIface ∧ StepT w w' g p q S d' k s 2 vn gn up (.slice lx I lc) ps ∧ R d') :
    Calls Tryz.prog 7 #[.pointer (some ⟨q, 0, none⟩)] w fun e w' => ∃ d' lx lc, e = .returned (.tuple #[.bool false, .nilIface]) ∧ StepT w w' g p q S d' k s 2 vn gn up (.slice lx I lc) ps ∧ R d' := by
  have HS := Lib.hid hs
  clear hs
  go_enter Tryz.func7, Tryz.ntmps7
  go_wp2_with fail
  refine HS.out.mono ?_
  rintro e w1 ⟨d1, lx, lc, rfl, ht, hr⟩
  have HT := Lib.hid ht
  have HR := Lib.hid hr
  clear ht hr HS hc
  have x2 : w1.cell? ⟨q, 2, none⟩ = some (.int .i64 2) := HT.out.blk.cell 2 rfl
  go_wp2
  exact bodyPost_ret (v := .tuple #[.bool false, .nilIface]) (by simp [results, Tryz.results7, go_sem]) rfl ⟨d1, lx, lc, rfl, HT.out, HR.out⟩
set_option maxRecDepth 100000 in
set_option maxHeartbeats 1000000 in
theorem stepw_3 (q p g k : Nat) (S : Nat → Prop) (s : Vst) (vn gn up : Int) (lv : Value) (ps : List Pos) (w : World) (hc : w.cell? ⟨q, 2, none⟩ = some (.int .i64 2)) (R : Dsk → Prop)
    (hs : Calls Tryz.prog 21 #[.pointer (some ⟨q, 0, none⟩)] w fun e w' => ∃ d', e = .returned .nilIface ∧ StepT w w' g p q S d' k s 3 vn gn up lv ps ∧ R d') :
    Calls Tryz.prog 7 #[.pointer (some ⟨q, 0, none⟩)] w fun e w' => ∃ d', e = .returned (.tuple #[.bool false, .nilIface]) ∧ StepT w w' g p q S d' k s 3 vn gn up (.slice none 0 0) [] ∧ R d' := by
  have HS := Lib.hid hs
  clear hs
  go_enter Tryz.func7, Tryz.ntmps7
  go_wp2_with fail
  refine HS.out.mono ?_
  rintro e w1 ⟨d1, rfl, ht, hr⟩
  have HT := Lib.hid ht
  have HR := Lib.hid hr
  clear ht hr HS hc
  have x2 : w1.cell? ⟨q, 2, none⟩ = some (.int .i64 3) := HT.out.blk.cell 2 rfl
  have x6 : w1.cell? ⟨q, 6, none⟩ = some lv := HT.out.blk.cell 6 rfl
  have xf := fun j => HT.out.blk.free j
  have HT2 := Lib.hid HT.out.drop
  have y2 : (w1.setCell ⟨q, 6, none⟩ (.slice none 0 0)).cell? ⟨q, 2, none⟩ = some (.int .i64 3) := HT2.out.blk.cell 2 rfl
  clear HT
  go_wp2
  exact bodyPost_ret (v := .tuple #[.bool false, .nilIface]) (by simp [results, Tryz.results7, go_sem]) rfl ⟨d1, rfl, HT2.out, HR.out⟩
set_option maxRecDepth 100000 in
set_option maxHeartbeats 1000000 in
theorem stepw_4 (q p g k : Nat) (S : Nat → Prop) (s : Vst) (vn gn up : Int) (lv : Value) (ps : List Pos) (w : World) (hc : w.cell? ⟨q, 2, none⟩ = some (.int .i64 3)) (R : Dsk → Prop)
    (hs : Calls Tryz.prog 21 #[.pointer (some ⟨q, 0, none⟩)] w fun e w' => ∃ d', e = .returned .nilIface ∧ StepT w w' g p q S d' k s 4 vn gn up lv ps ∧ R d') :
    Calls Tryz.prog 7 #[.pointer (some ⟨q, 0, none⟩)] w fun e w' => ∃ d', e = .returned (.tuple #[.bool false, .nilIface]) ∧ StepT w w' g p q S d' k s 4 vn gn up (.slice none 0 0) [] ∧ R d' := by
  have HS := Lib.hid hs
  clear hs
  go_enter Tryz.func7, Tryz.ntmps7
  go_wp2_with fail
  refine HS.out.mono ?_
  rintro e w1 ⟨d1, rfl, ht, hr⟩
  have HT := Lib.hid ht
  have HR := Lib.hid hr
  clear ht hr HS hc
  have x2 : w1.cell? ⟨q, 2, none⟩ = some (.int .i64 4) := HT.out.blk.cell 2 rfl
  have x6 : w1.cell? ⟨q, 6, none⟩ = some lv := HT.out.blk.cell 6 rfl
  have xf := fun j => HT.out.blk.free j
  have HT2 := Lib.hid HT.out.drop
  have y2 : (w1.setCell ⟨q, 6, none⟩ (.slice none 0 0)).cell? ⟨q, 2, none⟩ = some (.int .i64 4) := HT2.out.blk.cell 2 rfl
  clear HT
  go_wp2
  exact bodyPost_ret (v := .tuple #[.bool false, .nilIface]) (by simp [results, Tryz.results7, go_sem]) rfl ⟨d1, rfl, HT2.out, HR.out⟩
set_option maxRecDepth 100000 in
set_option maxHeartbeats 1000000 in
theorem stepw_5 (q p g k : Nat) (S : Nat → Prop) (s : Vst) (vn gn up : Int) (lv : Value) (ps : List Pos) (w : World) (hc : w.cell? ⟨q, 2, none⟩ = some (.int .i64 4)) (R : Dsk → Prop)
    (hs : Calls Tryz.prog 21 #[.pointer (some ⟨q, 0, none⟩)] w fun e w' => ∃ d', e = .returned .nilIface ∧ StepT w w' g p q S d' k s 5 vn gn up lv ps ∧ R d') :
    Calls Tryz.prog 7 #[.pointer (some ⟨q, 0, none⟩)] w fun e w' => ∃ d', e = .returned (.tuple #[.bool false, .nilIface]) ∧ StepT w w' g p q S d' k s 5 vn gn up (.slice none 0 0) [] ∧ R d' := by
  have HS := Lib.hid hs
  clear hs
  go_enter Tryz.func7, Tryz.ntmps7
  go_wp2_with fail
  refine HS.out.mono ?_
  rintro e w1 ⟨d1, rfl, ht, hr⟩
  have HT := Lib.hid ht
  have HR := Lib.hid hr
  clear ht hr HS hc
  have x2 : w1.cell? ⟨q, 2, none⟩ = some (.int .i64 5) := HT.out.blk.cell 2 rfl
  have x6 : w1.cell? ⟨q, 6, none⟩ = some lv := HT.out.blk.cell 6 rfl
  have xf := fun j => HT.out.blk.free j
  have HT2 := Lib.hid HT.out.drop
  have y2 : (w1.setCell ⟨q, 6, none⟩ (.slice none 0 0)).cell? ⟨q, 2, none⟩ = some (.int .i64 5) := HT2.out.blk.cell 2 rfl
  clear HT
  go_wp2
  exact bodyPost_ret (v := .tuple #[.bool false, .nilIface]) (by simp [results, Tryz.results7, go_sem]) rfl ⟨d1, rfl, HT2.out, HR.out⟩
set_option maxRecDepth 100000 in
set_option maxHeartbeats 1000000 in
theorem stepw_6 (q p g k : Nat) (S : Nat → Prop) (s : Vst) (vn gn up : Int) (lv : Value) (ps : List Pos) (w : World) (hc : w.cell? ⟨q, 2, none⟩ = some (.int .i64 5)) (R : Dsk → Prop)
    (hs : Calls Tryz.prog 21 #[.pointer (some ⟨q, 0, none⟩)] w fun e w' => ∃ d', e = .returned .nilIface ∧ StepT w w' g p q S d' k s 6 vn gn up lv ps ∧ R d') :
    Calls Tryz.prog 7 #[.pointer (some ⟨q, 0, none⟩)] w fun e w' => ∃ d', e = .returned (.tuple #[.bool true, .nilIface]) ∧ StepT w w' g p q S d' k s 6 vn gn up (.slice none 0 0) [] ∧ R d' := by
  have HS := Lib.hid hs
  clear hs
  go_enter Tryz.func7, Tryz.ntmps7
  go_wp2_with fail
  refine HS.out.mono ?_
  rintro e w1 ⟨d1, rfl, ht, hr⟩
  have HT := Lib.hid ht
  have HR := Lib.hid hr
  clear ht hr HS hc
  have x2 : w1.cell? ⟨q, 2, none⟩ = some (.int .i64 6) := HT.out.blk.cell 2 rfl
  have x6 : w1.cell? ⟨q, 6, none⟩ = some lv := HT.out.blk.cell 6 rfl
  have xf := fun j => HT.out.blk.free j
  have HT2 := Lib.hid HT.out.drop
  have y2 : (w1.setCell ⟨q, 6, none⟩ (.slice none 0 0)).cell? ⟨q, 2, none⟩ = some (.int .i64 6) := HT2.out.blk.cell 2 rfl
  clear HT
  go_wp2
  exact bodyPost_ret (v := .tuple #[.bool true, .nilIface]) (by simp [results, Tryz.results7, go_sem]) rfl ⟨d1, rfl, HT2.out, HR.out⟩
set_option maxRecDepth 100000 in
set_option maxHeartbeats 1000000 in
theorem stepw_bad (q p g k : Nat) (S : Nat → Prop) (s : Vst) (vn gn up : Int) (lv : Value) (ps : List Pos) (c : Int) (w : World) (hc : w.cell? ⟨q, 2, none⟩ = some (.int .i64 2)) (R : Dsk → Prop)
    (hs : Calls Tryz.prog 21 #[.pointer (some ⟨q, 0, none⟩)] w fun e w' => ∃ d', e = .returned (.iface 65 (.int .i64 c)) ∧ StepT w w' g p q S d' k s 3 vn gn up lv ps ∧ R d') :
    Calls Tryz.prog 7 #[.pointer (some ⟨q, 0, none⟩)] w fun e w' => ∃ d', e = .returned (.tuple #[.bool false, .iface 65 (.int .i64 c)]) ∧ StepT w w' g p q S d' k s 6 vn gn up (.slice none 0 0) [] ∧ R d' := by
  have HS := Lib.hid hs
  clear hs
  go_enter Tryz.func7, Tryz.ntmps7
  go_wp2_with fail
  refine HS.out.mono ?_
  rintro e w1 ⟨d1, rfl, ht, hr⟩
  have HT := Lib.hid ht
  have HR := Lib.hid hr
  clear ht hr HS hc
  have x2 : w1.cell? ⟨q, 2, none⟩ = some (.int .i64 3) := HT.out.blk.cell 2 rfl
  have x6 : w1.cell? ⟨q, 6, none⟩ = some lv := HT.out.blk.cell 6 rfl
  have xf := fun j => HT.out.blk.free j
  have HTa := Lib.hid (HT.out.turn 6)
  have HT2 := Lib.hid HTa.out.drop
  have y2 : (w1.setCell ⟨q, 2, none⟩ (.int .i64 6)).cell? ⟨q, 2, none⟩ = some (.int .i64 6) := HTa.out.blk.cell 2 rfl
  have y6 : (w1.setCell ⟨q, 2, none⟩ (.int .i64 6)).cell? ⟨q, 6, none⟩ = some lv := HTa.out.blk.cell 6 rfl
  have yf := fun j => HTa.out.blk.free j
  have z2 : ((w1.setCell ⟨q, 2, none⟩ (.int .i64 6)).setCell ⟨q, 6, none⟩ (.slice none 0 0)).cell? ⟨q, 2, none⟩ = some (.int .i64 6) := HT2.out.blk.cell 2 rfl
  clear HT HTa
  go_wp2
  exact bodyPost_ret (v := .tuple #[.bool false, .iface 65 (.int .i64 c)]) (by simp [results, Tryz.results7, go_sem]) rfl ⟨d1, rfl, HT2.out, HR.out⟩

end Go.Proofs.YtdchcepgbbdmhaaGreatDoor
end

section
namespace Go.Proofs.YtdchcepgbbdmhaaGreatDoor
open Go.RowKit Go.Cor

theorem nmC_nmD (v g u t : Nat) : nmD v g ≠ nmC u t := fun h => by have := congrArg (fun x : ByteArray => x.data[0]?) h; cases this
theorem nmC_nmM (v u t : Nat) : nmM v ≠ nmC u t := fun h => by have := congrArg ByteArray.size h; cases this
theorem nmC_nmS (v u t : Nat) : nmS v ≠ nmC u t := fun h => by have := congrArg (fun x : ByteArray => x.data[0]?) h; cases this
theorem Lies.went {d d' : Dsk} {k k' : Nat} {s : Vst} {u l : Nat} {v : ByteArray → Option (List UInt8)} (h : Lies d k s) (hw : Went d d' k' u l v) (hv : ∀ m, (∀ a b, m ≠ nmC a b) → v m = view d m) : Lies d' k' s := by
  obtain ⟨X, hX, hd⟩ := h.data
  obtain ⟨m, hm, hl⟩ := h.man
  exact ⟨hw.fs, ⟨X, hX, by rw [hw.view, hv _ (fun a b => nmC_nmD _ _ _ _), hd]⟩, ⟨m, by rw [hw.view, hv _ (fun a b => nmC_nmM _ _ _), hm], hl⟩, by rw [hw.view, hv _ (fun a b => nmC_nmS _ _ _)]; exact h.shad⟩
/-- A writer between two steps. -/
structure Wr (w : World) (g p q : Nat) (S : Nat → Prop) (d : Dsk) (k : Nat) (s : Vst) (nx : Int) (lv : Value) (ps : List Pos) : Prop where
  at_ : StepT w w g p q S d k s nx (s.num : Int) (s.gen : Int) (s.size : Int) lv ps
  lies : Lies d k s
  ok : s.Ok
  few : k + 12 ≤ 90000
  names : d.now.length < 60
theorem Wr.r {w : World} {g p q : Nat} {S : Nat → Prop} {d : Dsk} {k : Nat} {s : Vst} {nx : Int} {lv : Value} {ps : List Pos} (h : Wr w g p q S d k s nx lv ps) : StepR w g p q S d k s nx lv ps := ⟨h.at_, fun S' hv => ⟨hv, h.lies, h.ok, h.few, h.names⟩⟩
def WrT (w w' : World) (g p q : Nat) (S : Nat → Prop) (d : Dsk) (k : Nat) (s : Vst) (nx : Int) (lv : Value) (ps : List Pos) : Prop :=
  ∃ S', Wr w' g p q S' d k s nx lv ps ∧ Kept (fun b => S b ∨ b = q) w w' ∧ ∀ b, S' b → S b ∨ w.heap.size ≤ b
theorem WrT.of {w w' : World} {g p q : Nat} {S : Nat → Prop} {d : Dsk} {k : Nat} {s : Vst} {nx : Int} {lv : Value} {ps : List Pos} (h : StepT w w' g p q S d k s nx (s.num : Int) (s.gen : Int) (s.size : Int) lv ps) (hl : Lies d k s) (hok : s.Ok) (hk : k + 12 ≤ 90000) (hn : d.now.length < 60) : WrT w w' g p q S d k s nx lv ps := by
  obtain ⟨S', h1, h2, h3, h4, h5, h6, h7⟩ := h
  exact ⟨S', ⟨⟨S', h1, Kept.refl _ _, fun b hb => .inl hb, h4, h5, h6, h7⟩, hl, hok, hk, hn⟩, h2, h3⟩
theorem WrT.below {w w' : World} {B g p q : Nat} {S : Nat → Prop} {d : Dsk} {k : Nat} {s : Vst} {nx : Int} {lv : Value} {ps : List Pos} (h : WrT w w' g p q S d k s nx lv ps) (hS : ∀ b, S b → B ≤ b) (hq : B ≤ q) (hB : B ≤ w.heap.size) : ∃ S', Wr w' g p q S' d k s nx lv ps ∧ Below B w w' ∧ (∀ b, S' b → B ≤ b) ∧ Kept (fun b => S b ∨ b = q) w w' ∧ ∀ b, S' b → S b ∨ w.heap.size ≤ b := by
  obtain ⟨S', h1, h2, h3⟩ := h
  refine ⟨S', h1, h2.below hB (fun b hb e => ?_), fun b hb => ?_, h2, h3⟩
  · rcases e with e | e
    · have := hS b e; omega
    · omega
  · rcases h3 b hb with e | e
    · exact hS b e
    · omega

theorem step1_w (q p g k : Nat) (S : Nat → Prop) (d : Dsk) (s : Vst) (w : World) (h : Blk w q (wcells p g 0 0 0 0 (.slice none 0 0)) 69) (hr : Vready w g p S d k s) (hq : ¬ S q) (hn : view d (nmC s.num 0) = none) (hk : k + 16 ≤ 90000) (hl : d.now.length < 59) :
    Calls Tryz.prog 7 #[.pointer (some ⟨q, 0, none⟩)] w fun e w' => ∃ d' lx lc, e = .returned (.tuple #[.bool false, .nilIface]) ∧ WrT w w' g p q S d' (k + 4) s 2 (.slice lx s.idx.length lc) s.idx ∧ Went d d' (k + 4) d.used (d.now.length + 1) (fun m => if m = nmC s.num 0 then some [] else view d m) := by
  refine (stepw_first q p g (k + 4) S s (s.num : Int) (s.gen : Int) (s.size : Int) s.idx.length s.idx w (h.cell 2 rfl) _ (step_first q p g k S d s w h hr hq hn)).mono ?_
  rintro e w' ⟨d', lx, lc, rfl, ht, hw⟩
  exact ⟨d', lx, lc, rfl, WrT.of ht (hr.lies.went hw (fun m hm => if_neg (hm _ _))) hr.ok (by omega) (by rw [hw.len]; omega), hw⟩
theorem step2_w (q p g k : Nat) (S : Nat → Prop) (d : Dsk) (s : Vst) (lv : Value) (w : World) (h : Wr w g p q S d k s 2 lv s.idx) (hv : view d (nmC s.num 0) = some []) (hu : d.used + (24 + 24 * s.idx.length) ≤ d.cap) (hk : k + 14 ≤ 90000) :
    Calls Tryz.prog 7 #[.pointer (some ⟨q, 0, none⟩)] w fun e w' => ∃ d', e = .returned (.tuple #[.bool false, .nilIface]) ∧ WrT w w' g p q S d' (k + 2) s 3 (.slice none 0 0) [] ∧ Went d d' (k + 2) (d.used + (24 + 24 * s.idx.length)) d.now.length (fun m => if m = nmC s.num 0 then some (Ck.cbytes (chkV s)) else view d m) := by
  have hcl := chk_len s
  have hil : s.idx.length ≤ 4096 := by have := s.idx_len; have := h.ok.few; omega
  have ha := h.lies.fs.append hv (l := Ck.cbytes (chkV s)) (by simp only [List.length_nil]; omega) (by omega)
  rw [hcl, List.nil_append] at ha
  have hs := step_fill q p g k S d s lv w h.r
  rw [ha.1] at hs
  refine (stepw_3 q p g (k + 2) S s (s.num : Int) (s.gen : Int) (s.size : Int) lv s.idx w (h.at_.blk.cell 2 rfl) (fun d' => d' = (d.append (nmC s.num 0) (Ck.cbytes (chkV s))).1) (hs.mono fun e w' hh => ⟨_, hh.1, hh.2, rfl⟩)).mono ?_
  rintro e w' ⟨d', rfl, ht, rfl⟩
  exact ⟨_, rfl, WrT.of ht (h.lies.went ha.2 (fun m hm => if_neg (hm _ _))) h.ok (by omega) (by rw [ha.2.len]; exact h.names), ha.2⟩
theorem step2_full (q p g k : Nat) (S : Nat → Prop) (d : Dsk) (s : Vst) (lv : Value) (w : World) (h : Wr w g p q S d k s 2 lv s.idx) (hv : view d (nmC s.num 0) = some []) (hu : d.cap < d.used + (24 + 24 * s.idx.length)) (hk : k + 14 ≤ 90000) :
    Calls Tryz.prog 7 #[.pointer (some ⟨q, 0, none⟩)] w fun e w' => e = .returned (.tuple #[.bool false, ercode 11]) ∧ WrT w w' g p q S d (k + 2) s 6 (.slice none 0 0) [] := by
  have hcl := chk_len s
  have hil : s.idx.length ≤ 4096 := by have := s.idx_len; have := h.ok.few; omega
  have ha := h.lies.fs.append_full hv (l := Ck.cbytes (chkV s)) (by simp only [List.length_nil]; omega) (by omega)
  have hs := step_fill q p g k S d s lv w h.r
  rw [ha] at hs
  refine (stepw_bad q p g (k + 2) S s (s.num : Int) (s.gen : Int) (s.size : Int) lv s.idx ((11 : Nat) : Int) w (h.at_.blk.cell 2 rfl) (fun d' => d' = d) (hs.mono fun e w' hh => ⟨_, hh.1, hh.2, rfl⟩)).mono ?_
  rintro e w' ⟨d', rfl, ht, rfl⟩
  exact ⟨rfl, WrT.of ht (h.lies.more (by omega)) h.ok (by omega) h.names⟩
theorem step3_w (q p g k : Nat) (S : Nat → Prop) (d : Dsk) (s : Vst) (lv : Value) (ps : List Pos) (w : World) (h : Wr w g p q S d k s 3 lv ps) {b : List UInt8} (hv : view d (nmC s.num 0) = some b) (hk : k + 14 ≤ 90000) :
    Calls Tryz.prog 7 #[.pointer (some ⟨q, 0, none⟩)] w fun e w' => ∃ d', e = .returned (.tuple #[.bool false, .nilIface]) ∧ WrT w w' g p q S d' (k + 2) s 4 (.slice none 0 0) [] ∧ Went d d' (k + 2) d.used d.now.length (view d) := by
  refine (stepw_4 q p g (k + 2) S s (s.num : Int) (s.gen : Int) (s.size : Int) lv ps w (h.at_.blk.cell 2 rfl) _ (step_flush q p g k S d s lv ps w h.r hv)).mono ?_
  rintro e w' ⟨d', rfl, ht, hw⟩
  exact ⟨d', rfl, WrT.of ht (h.lies.went hw (fun m hm => rfl)) h.ok (by omega) (by rw [hw.len]; exact h.names), hw⟩
theorem step4_w (q p g k : Nat) (S : Nat → Prop) (d : Dsk) (s : Vst) (lv : Value) (ps : List Pos) (w : World) (h : Wr w g p q S d k s 4 lv ps) {b : List UInt8} (hv : view d (nmC s.num 0) = some b) (hvt : view d (nmC s.num s.gen) = none) (hk : k + 14 ≤ 90000) :
    Calls Tryz.prog 7 #[.pointer (some ⟨q, 0, none⟩)] w fun e w' => ∃ d', e = .returned (.tuple #[.bool false, .nilIface]) ∧ WrT w w' g p q S d' (k + 2) s 5 (.slice none 0 0) [] ∧ Went d d' (k + 2) d.used d.now.length (fun m => if m = nmC s.num s.gen then some b else if m = nmC s.num 0 then none else view d m) := by
  refine (stepw_5 q p g (k + 2) S s (s.num : Int) (s.gen : Int) (s.size : Int) lv ps w (h.at_.blk.cell 2 rfl) _ (step_rename q p g k S d s lv ps w h.r hv h.ok.gen1 hvt)).mono ?_
  rintro e w' ⟨d', rfl, ht, hw⟩
  exact ⟨d', rfl, WrT.of ht (h.lies.went hw (fun m hm => by rw [if_neg (hm _ _), if_neg (hm _ _)])) h.ok (by omega) (by rw [hw.len]; exact h.names), hw⟩
theorem step5_w (q p g k : Nat) (S : Nat → Prop) (d : Dsk) (s : Vst) (lv : Value) (ps : List Pos) (w : World) (h : Wr w g p q S d k s 5 lv ps) (hk : k + 14 ≤ 90000) :
    Calls Tryz.prog 7 #[.pointer (some ⟨q, 0, none⟩)] w fun e w' => ∃ d', e = .returned (.tuple #[.bool true, .nilIface]) ∧ WrT w w' g p q S d' (k + 2) s 6 (.slice none 0 0) [] ∧ Went d d' (k + 2) d.used d.now.length (view d) := by
  refine (stepw_6 q p g (k + 2) S s (s.num : Int) (s.gen : Int) (s.size : Int) lv ps w (h.at_.blk.cell 2 rfl) _ (step_last q p g k S d s lv ps w h.r)).mono ?_
  rintro e w' ⟨d', rfl, ht, hw⟩
  exact ⟨d', rfl, WrT.of ht (h.lies.went hw (fun m hm => rfl)) h.ok (by omega) (by rw [hw.len]; exact h.names), hw⟩
theorem step6_w (q p g k : Nat) (S : Nat → Prop) (d : Dsk) (s : Vst) (lv : Value) (ps : List Pos) (w : World) (h : Wr w g p q S d k s 6 lv ps) :
    Calls Tryz.prog 7 #[.pointer (some ⟨q, 0, none⟩)] w fun e w' => e = .returned (.tuple #[.bool false, ercode 16]) ∧ w = w' :=
  step_over q p g (s.num : Int) (s.gen : Int) (s.size : Int) lv w h.at_.blk
theorem Wr.disk {w : World} {g p q : Nat} {S : Nat → Prop} {d : Dsk} {k : Nat} {s : Vst} {nx : Int} {lv : Value} {ps : List Pos} (h : Wr w g p q S d k s nx lv ps) : ∃ Sd, Dk w p Sd d k := by
  obtain ⟨Sd, h1, _⟩ := h.at_.deed
  exact ⟨Sd, h1⟩
theorem Wr.below {w w' : World} {g p q : Nat} {S : Nat → Prop} {d : Dsk} {k : Nat} {s : Vst} {nx : Int} {lv : Value} {ps : List Pos} (h : Wr w g p q S d k s nx lv ps) (hb : Below w.heap.size w w') : Wr w' g p q S d k s nx lv ps := by
  obtain ⟨S', h1, h2, h3, h4, h5, h6, h7⟩ := h.at_
  exact ⟨⟨S', h1.below hb (Nat.le_refl _), Kept.refl _ _, fun b hb' => .inl ((h3 b hb').elim id fun e => absurd (h1.lt b hb') (by omega)), h4, h5.below hb h5.lt, h6.mono hb (Nat.le_refl _), h7⟩, h.lies, h.ok, h.few, h.names⟩
theorem Wr.ready {w : World} {g p q : Nat} {S : Nat → Prop} {d : Dsk} {k : Nat} {s : Vst} {nx : Int} {lv : Value} {ps : List Pos} (h : Wr w g p q S d k s nx lv ps) : ∃ S', Vready w g p S' d k s := by
  obtain ⟨S', h1, h2, h3, h4, h5, h6, h7⟩ := h.at_
  exact ⟨S', h1, h.lies, h.ok, h.few, h.names⟩

end Go.Proofs.YtdchcepgbbdmhaaGreatDoor
end

section
namespace Go.Proofs.YtdchcepgbbdmhaaGreatDoor
open Go.RowKit Go.Cor

/-- A writer ahead of alive's step i. -/
def AlI (w0 w : World) (g p q : Nat) (s : Vst) (i : Nat) : Prop :=
  ∃ (S : Nat → Prop) (d : Dsk) (k : Nat) (lv : Value) (ps : List Pos) (b : List UInt8), Below w0.heap.size w0 w ∧ (∀ b, S b → w0.heap.size ≤ b) ∧ w0.heap.size ≤ q ∧ k ≤ 16 + 4 * i ∧
    ((i = 0 ∧ Blk w q (wcells p g 0 0 0 0 (.slice none 0 0)) 69 ∧ Vready w g p S d k s ∧ ¬ S q ∧ view d (nmC s.num 0) = none ∧ view d (nmC s.num s.gen) = none ∧ d.now.length = 2 ∧ d.used + (24 + 24 * s.idx.length) ≤ d.cap) ∨
     (i = 1 ∧ Wr w g p q S d k s 2 lv s.idx ∧ view d (nmC s.num 0) = some [] ∧ view d (nmC s.num s.gen) = none ∧ d.used + (24 + 24 * s.idx.length) ≤ d.cap) ∨
     (i = 2 ∧ Wr w g p q S d k s 3 lv ps ∧ view d (nmC s.num 0) = some b ∧ view d (nmC s.num s.gen) = none) ∨
     (i = 3 ∧ Wr w g p q S d k s 4 lv ps ∧ view d (nmC s.num 0) = some b ∧ view d (nmC s.num s.gen) = none) ∨
     (i = 4 ∧ Wr w g p q S d k s 5 lv ps ∧ view d (nmC s.num s.gen) = some b) ∨
     (i = 5 ∧ Wr w g p q S d k s 6 lv ps ∧ view d (nmC s.num s.gen) = some b))
theorem AlI.bel {w0 w : World} {g p q i : Nat} {s : Vst} (h : AlI w0 w g p q s i) : Below w0.heap.size w0 w := by
  obtain ⟨S, d, k, lv, ps, b, h1, _⟩ := h
  exact h1
theorem AlI.step {w0 w : World} {g p q i : Nat} {s : Vst} (h : AlI w0 w g p q s i) (hi : i < 5) :
    Calls Tryz.prog 7 #[.pointer (some ⟨q, 0, none⟩)] w fun e w' => e = .returned (.tuple #[.bool (decide (i = 4)), .nilIface]) ∧ AlI w0 w' g p q s (i + 1) := by
  obtain ⟨S, d, k, lv, ps, b, hB, hS, hq, hk, h⟩ := h
  have hsz := hB.size
  rcases h with ⟨rfl, hb, hr, hnq, h0, h1, hl, hu⟩ | ⟨rfl, hw, h0, h1, hu⟩ | ⟨rfl, hw, h0, h1⟩ | ⟨rfl, hw, h0, h1⟩ | ⟨rfl, hw, h1⟩ | ⟨rfl, _⟩
  · have hne : nmC s.num s.gen ≠ nmC s.num 0 := nmC_ne hr.ok.gen9 (by decide) (by have := hr.ok.gen1; omega)
    refine (step1_w q p g k S d s w hb hr hnq h0 (by omega) (by omega)).mono ?_
    rintro e w' ⟨d', lx, lc, rfl, ht, hw⟩
    obtain ⟨S', a1, a2, a3, _, _⟩ := ht.below hS hq hsz
    exact ⟨rfl, S', d', k + 4, _, [], [], hB.trans a2, a3, hq, by omega, .inr (.inl ⟨rfl, a1, by rw [hw.view, if_pos rfl], by rw [hw.view, if_neg hne]; exact h1, by rw [hw.used, hw.cap]; exact hu⟩)⟩
  · have hne : nmC s.num s.gen ≠ nmC s.num 0 := nmC_ne hw.ok.gen9 (by decide) (by have := hw.ok.gen1; omega)
    refine (step2_w q p g k S d s lv w hw h0 hu (by omega)).mono ?_
    rintro e w' ⟨d', rfl, ht, hww⟩
    obtain ⟨S', a1, a2, a3, _, _⟩ := ht.below hS hq hsz
    exact ⟨rfl, S', d', k + 2, _, [], _, hB.trans a2, a3, hq, by omega, .inr (.inr (.inl ⟨rfl, a1, by rw [hww.view, if_pos rfl], by rw [hww.view, if_neg hne]; exact h1⟩))⟩
  · refine (step3_w q p g k S d s lv ps w hw h0 (by omega)).mono ?_
    rintro e w' ⟨d', rfl, ht, hww⟩
    obtain ⟨S', a1, a2, a3, _, _⟩ := ht.below hS hq hsz
    exact ⟨rfl, S', d', k + 2, _, [], b, hB.trans a2, a3, hq, by omega, .inr (.inr (.inr (.inl ⟨rfl, a1, by rw [hww.view]; exact h0, by rw [hww.view]; exact h1⟩)))⟩
  · refine (step4_w q p g k S d s lv ps w hw h0 h1 (by omega)).mono ?_
    rintro e w' ⟨d', rfl, ht, hww⟩
    obtain ⟨S', a1, a2, a3, _, _⟩ := ht.below hS hq hsz
    exact ⟨rfl, S', d', k + 2, _, [], b, hB.trans a2, a3, hq, by omega, .inr (.inr (.inr (.inr (.inl ⟨rfl, a1, by rw [hww.view, if_pos rfl]⟩))))⟩
  · refine (step5_w q p g k S d s lv ps w hw (by omega)).mono ?_
    rintro e w' ⟨d', rfl, ht, hww⟩
    obtain ⟨S', a1, a2, a3, _, _⟩ := ht.below hS hq hsz
    exact ⟨rfl, S', d', k + 2, _, [], b, hB.trans a2, a3, hq, by omega, .inr (.inr (.inr (.inr (.inr ⟨rfl, a1, by rw [hww.view]; exact h1⟩))))⟩
  · omega
/-- Behind the last step: it is over, and the checkpoint's file is there. -/
theorem AlI.fin {w0 w : World} {g p q : Nat} {s : Vst} (h : AlI w0 w g p q s 5) :
    Calls Tryz.prog 7 #[.pointer (some ⟨q, 0, none⟩)] w (fun e w' => e = .returned (.tuple #[.bool false, ercode 16]) ∧ w = w') ∧
    ∃ n : Nat, Calls Tryz.prog 15 #[.pointer (some ⟨p, 0, none⟩), .string (nmC s.num s.gen)] w fun e w' => e = .returned (.tuple #[.int .i64 (n : Int), .nilIface]) ∧ Below w.heap.size w w' := by
  obtain ⟨S, d, k, lv, ps, b, hB, hS, hq, hk, h⟩ := h
  rcases h with ⟨h, _⟩ | ⟨h, _⟩ | ⟨h, _⟩ | ⟨h, _⟩ | ⟨h, _⟩ | ⟨_, hw, h1⟩
  · cases h
  · cases h
  · cases h
  · cases h
  · cases h
  · refine ⟨step6_w q p g k S d s lv ps w hw, b.length, ?_⟩
    obtain ⟨Sd, hd⟩ := hw.disk
    have hs := size_u w p Sd d k (nmC s.num s.gen) hd
    rw [hw.lies.fs.size h1] at hs
    exact hs

end Go.Proofs.YtdchcepgbbdmhaaGreatDoor
end

section
namespace Go.Proofs.YtdchcepgbbdmhaaGreatDoor
open Go.RowKit Go.Cor

theorem names_free {d : Dsk} {k i : Nat} {s : Vst} (h : MadeF d k i s) (g : Nat) : view d (nmC s.num g) = none := by
  rw [h.num]
  exact h.views _ (fun e => nmC_nmD _ _ _ _ e.symm) (fun e => nmC_nmM _ _ _ e.symm) (fun e => nmC_nmS _ _ _ e.symm)
set_option maxRecDepth 100000 in
set_option maxHeartbeats 2000000 in
theorem alive10 (w : World) :
    Calls Tryz.prog 4 #[] w fun e w' => e = .returned (.bool true) ∧ Below w.heap.size w w' := by
  have HM := Lib.hid (made_any (.slice none 0 0) [] w ⟨IsX.nil _ _, fun x hx => by cases hx⟩ (by decide) (fun x hx => by cases hx) (fun x hx => by cases hx))
  go_enter Tryz.func4, Tryz.ntmps4
  go_wp2_with fail
  refine HM.out.mono ?_
  rintro e w1 ⟨g, p, S, d, k, s, lv, dv, ps, rfl, hr, hdoc, hb, hS, hm⟩
  obtain ⟨lx, lc, rfl, _, _⟩ := IsX.slice hdoc.l
  obtain ⟨dx, dc, rfl, _, _⟩ := IsX.slice hdoc.d.1
  obtain ⟨I, hI⟩ : ∃ I, s.idx.length = I := ⟨_, rfl⟩
  obtain ⟨N, hN⟩ : ∃ N, ps.length = N := ⟨_, rfl⟩
  rw [hI, hN]
  have HR := Lib.hid hr
  have HS := Lib.hid hS
  have HB := Lib.hid hb
  have HF := Lib.hid hm
  have HI := Lib.hid hI
  clear hr hdoc hb hS hm hI hN HM
  go_wp2_with fail
  obtain ⟨w2, hw2⟩ : ∃ w2, w1.alloc (.cells #[.int .i64 (s.num : Int), .int .i64 (s.most : Int), .int .i64 (s.epoch : Int), .int .i64 (s.size : Int), .bool s.shut, .slice lx I lc, .slice dx N dc] 30) = w2 := ⟨_, rfl⟩
  have hb2 : Below w1.heap.size w1 w2 := by rw [← hw2]; exact below_alloc _ _
  rw [hw2]
  clear hw2
  refine (cknew_ok p g w2).mono ?_
  rintro e w3 ⟨rfl, hq, hb3⟩
  obtain ⟨q, hqq⟩ : ∃ q, w2.heap.size = q := ⟨_, rfl⟩
  rw [hqq] at hq hb3 ⊢
  have HA0 := Lib.hid (show AlI w w3 g p q s 0 by
    have hr2 := HR.out.below hb2
    have hr3 : Vready w3 g p S d k s := hr2.below (by rw [hqq]; exact hb3)
    have h1 := HB.out.size
    have h2 := hb2.size
    have hm := HF.out
    have hus := hm.used
    have hsz := hm.size
    have hil := s.idx_len
    have hns : s.ns.length ≤ 0 := hm.ns
    refine ⟨S, d, k, .slice none 0 0, [], [], (HB.out.trans (hb2.mono h1)).trans (hb3.mono (by omega)), HS.out, by omega, by have := hm.few; simp only [List.length_nil] at this; omega, .inl ⟨rfl, hq, hr3, fun e => ?_, names_free hm 0, names_free hm _, hm.names, ?_⟩⟩
    · have := HR.out.vl.lt _ e; omega
    · have := hm.cap; simp only [List.length_nil] at hsz; omega)
  clear hq hb2 hb3 hqq HR HS HB HI
  have HNN := Lib.hid HF.out.num
  have HGG := Lib.hid HF.out.gen
  clear HF
  go_wp2_with fail
  go_loopw [7, 8] (fun a c wr => ∃ i : Nat, i ≤ 5 ∧ a = .int .i64 (i : Int) ∧ c = .int .i64 (i : Int) ∧ Hid (AlI w wr g p q s i)) (fun _ c _ => (5 - intOf c).toNat)
  case atStart => exact ⟨0, by decide, rfl, rfl, HA0⟩
  case round =>
    obtain ⟨i, hi5, rfl, rfl, HA⟩ := hrel
    clear HA0
    by_cases hi : i < 5
    · have HST := Lib.hid (HA.out.step hi)
      obtain ⟨D, hD⟩ : ∃ D, decide (i = 4) = D := ⟨_, rfl⟩
      have hD2 : ((i : Int) == 4) = D := by rw [← hD, Bool.eq_iff_iff]; simp; omega
      rw [hD] at HST
      have e1 : IntKind.i64.wrap ((i : Int) + 1) = (i : Int) + 1 := IntWalk.i64_in _ (by omega)
      go_wp2_with fail
      refine HST.out.mono ?_
      rintro e wn ⟨rfl, ha⟩
      have HA2 := Lib.hid ha
      clear ha HST HA
      go_wp2_with fail
      refine (code_nil _).mono ?_
      rintro e wm ⟨rfl, rfl⟩
      go_wp2
      go_roundw
      case rel => exact ⟨i + 1, by omega, by simp, by simp, HA2⟩
      case measure => simp [intOf]; omega
    · obtain rfl : i = 5 := by omega
      have hfin := HA.out.fin
      rw [HNN.out, HGG.out] at hfin
      have HST := Lib.hid hfin.1
      obtain ⟨n, hn⟩ := hfin.2
      have HSZ := Lib.hid (show Calls Tryz.prog 15 #[.pointer (some ⟨p, 0, none⟩), .string ⟨#[99, 49, 46, 49]⟩] wr (fun e w' => e = .returned (.tuple #[.int .i64 (n : Int), .nilIface]) ∧ Below wr.heap.size wr w') from hn)
      have HBB := Lib.hid HA.out.bel
      clear hfin hn HA
      go_wp2_with fail
      refine HST.out.mono ?_
      rintro e wn ⟨rfl, rfl⟩
      go_wp2_with fail
      refine HSZ.out.mono ?_
      rintro e wm ⟨rfl, hb⟩
      have HBF := Lib.hid (HBB.out.trans (hb.mono HBB.out.size))
      clear hb HST HSZ
      go_wp2_with fail
      refine (code_nil _).mono ?_
      rintro e wo ⟨rfl, rfl⟩
      go_wp2_with fail
      refine (code_code 16 _ (by decide) (by decide)).mono ?_
      rintro e wo ⟨rfl, rfl⟩
      go_wp2_with fail
      refine (code_nil _).mono ?_
      rintro e wo ⟨rfl, rfl⟩
      go_wp2
      go_ret
      exact ⟨rfl, HBF.out⟩

end Go.Proofs.YtdchcepgbbdmhaaGreatDoor
end

section
namespace Go.Proofs.YtdchcepgbbdmhaaGreatDoor
open Go.RowKit Go.Cor

def nmBig : ByteArray := ⟨#[98, 105, 103]⟩
theorem nmBig_C (v g : Nat) : nmBig ≠ nmC v g := fun h => by have := congrArg ByteArray.size h; cases this
theorem nmBig_D (v g : Nat) : nmBig ≠ nmD v g := fun h => by have := congrArg ByteArray.size h; cases this
theorem nmBig_M (v : Nat) : nmBig ≠ nmM v := fun h => by have := congrArg ByteArray.size h; cases this
theorem nmBig_S (v : Nat) : nmBig ≠ nmS v := fun h => by have := congrArg ByteArray.size h; cases this
/-- A volume behind a deed of its disk that leaves its files. -/
theorem Vready.deed {w w' : World} {g p k k' : Nat} {S : Nat → Prop} {d d' : Dsk} {s : Vst} {u l : Nat} {v : ByteArray → Option (List UInt8)} (h : Vready w g p S d k s) (ht : Vt w w' g p S d' k' s) (hw : Went d d' k' u l v) (hv : ∀ m, m ≠ nmBig → v m = view d m) (hk : k' + 12 ≤ 90000) (hl : l < 60) :
    ∃ S', Vready w' g p S' d' k' s ∧ Kept S w w' ∧ ∀ b, S' b → S b ∨ w.heap.size ≤ b := by
  obtain ⟨S', h1, h2, h3⟩ := ht
  obtain ⟨X, hX, hd⟩ := h.lies.data
  obtain ⟨m, hm, hml⟩ := h.lies.man
  exact ⟨S', ⟨h1, ⟨hw.fs, ⟨X, hX, by rw [hw.view, hv _ (nmBig_D _ _).symm, hd]⟩, ⟨m, by rw [hw.view, hv _ (nmBig_M _).symm, hm], hml⟩, by rw [hw.view, hv _ (nmBig_S _).symm]; exact h.lies.shad⟩, h.ok, hk, by rw [hw.len]; exact hl⟩, h2, h3⟩
/-- A made slice of zeros. -/
theorem made_zero (n : Nat) (hn : n ≤ 16777216) :
    ∃ M : Array Value, ∀ w : World, (Instr.makeSlice 44 (.int .i64 (n : Int)) (.int .i64 (n : Int))).run Tryz.prog w = .ok (.slice (some ⟨w.heap.size, 0, none⟩) n n) (w.alloc (.cells M 5)) ∧ IsB (w.alloc (.cells M 5)) (.slice (some ⟨w.heap.size, 0, none⟩) n n) (List.replicate n 0) := by
  obtain ⟨i0, hi, hz0, hz1, hz2⟩ := info_parts Tryz.infoU8s
  obtain ⟨M, hM⟩ : ∃ M, M = madeCells (Value.int .u8 0).cells (((n : Nat) : Int).toNat * i0.size) := ⟨_, rfl⟩
  refine ⟨M, fun w => ⟨?_, ?_⟩⟩
  · have h := run_make (P := Tryz.prog) w 44 5 i0 (.int .u8 0) Tryz.underlying44 hi hz0 .i64 .i64 (n : Int) (n : Int) (by omega) (by omega) (by rw [hz2]; omega) (by omega)
    rw [← hM] at h
    simpa using h
  · refine ⟨some ⟨w.heap.size, 0, none⟩, n, by rw [List.length_replicate], by rw [List.length_replicate]; exact Nat.le_refl _, by unfold maxLen; omega, (fun h => by cases h), .inr ⟨w.heap.size, 0, rfl, fun i hi' => ?_⟩⟩
    rw [List.length_replicate] at hi'
    refine (Blk.new w M 5).cell (0 + i) ?_
    have hMl : M.toList = List.replicate n (.int .u8 0) := by
      rw [hM, hz1]
      have : (Value.int .u8 0).cells = #[.int .u8 0] := rfl
      rw [this, toList_madeCells_one]
      simp
    rw [Nat.zero_add, ← Array.getElem?_toList, hMl, List.getElem?_replicate, if_pos hi']
    simp [bv, List.getD_eq_getElem?_getD, List.getElem?_replicate, hi']
theorem create_big (g p k : Nat) (S : Nat → Prop) (d : Dsk) (s : Vst) (w : World) (h : Vready w g p S d k s) (hk : k + 16 ≤ 90000) (hn : view d nmBig = none) (hl : d.now.length < 58) :
    Calls Tryz.prog 11 #[.pointer (some ⟨p, 0, none⟩), .string ⟨#[98, 105, 103]⟩] w fun e w' => ∃ d', e = .returned .nilIface ∧ (∃ S', Vready w' g p S' d' (k + 2) s ∧ Kept S w w' ∧ ∀ b, S' b → S b ∨ w.heap.size ≤ b) ∧ Went d d' (k + 2) d.used (d.now.length + 1) (fun m => if m = nmBig then some [] else view d m) := by
  obtain ⟨Sd, hd, hs, hnext⟩ := h.vl.disk
  have hc := h.lies.fs.create (n := nmBig) rfl hn (by omega)
  refine (create_u w p Sd d k nmBig hd (by omega) (by decide)).mono ?_
  rintro e w' ⟨rfl, ht⟩
  exact ⟨_, by rw [hc.1]; rfl, h.deed (hnext _ _ _ ht) hc.2 (fun m hm => if_neg hm) (by omega) (by omega), hc.2⟩
theorem append_big (g p k : Nat) (S : Nat → Prop) (d : Dsk) (s : Vst) (v : Value) (l : List UInt8) (w : World) (h : Vready w g p S d k s) (hv : IsB w v l) (hk : k + 16 ≤ 90000) (hn : view d nmBig = some []) (hl : d.now.length < 58) (hm : l.length ≤ 16777216) (hu : d.used + l.length ≤ d.cap) :
    Calls Tryz.prog 12 #[.pointer (some ⟨p, 0, none⟩), .string ⟨#[98, 105, 103]⟩, v] w fun e w' => ∃ d', e = .returned .nilIface ∧ (∃ S', Vready w' g p S' d' (k + 2) s ∧ Kept S w w' ∧ ∀ b, S' b → S b ∨ w.heap.size ≤ b) ∧ Went d d' (k + 2) (d.used + l.length) d.now.length (fun m => if m = nmBig then some ([] ++ l) else view d m) := by
  obtain ⟨Sd, hd, hs, hnext⟩ := h.vl.disk
  have hc := h.lies.fs.append (n := nmBig) hn (l := l) (by simp only [List.length_nil]; omega) hu
  refine (append_u w p Sd d k nmBig v l hd (by omega) hv hm).mono ?_
  rintro e w' ⟨rfl, ht⟩
  exact ⟨_, by rw [hc.1]; rfl, h.deed (hnext _ _ _ ht) hc.2 (fun m hm => if_neg hm) (by omega) (by omega), hc.2⟩
/-- What is carried along the law: the document's volume, and the box in which it lies. -/
structure Hold (w0 w : World) (T : Nat → Prop) (B : Nat) (s : Vst) (lx : Option Addr) (I lc : Nat) (dx : Option Addr) (N dc : Nat) (ps : List (Ndl × Value)) : Prop where
  doc : DocP w T s (.slice lx I lc) (.slice dx N dc) ps
  blk : Blk w B #[.int .i64 (s.num : Int), .int .i64 (s.most : Int), .int .i64 (s.epoch : Int), .int .i64 (s.size : Int), .bool s.shut, .slice lx I lc, .slice dx N dc] 30
  nb : ¬ T B
  bel : Below w0.heap.size w0 w
  low : ∀ b, T b → w0.heap.size ≤ b
theorem Hold.kept {w0 w w' : World} {T T' : Nat → Prop} {B : Nat} {s : Vst} {lx : Option Addr} {I lc : Nat} {dx : Option Addr} {N dc : Nat} {ps : List (Ndl × Value)} (h : Hold w0 w T B s lx I lc dx N dc ps) (hk : Kept T w w') (hT : ∀ b, T' b → T b ∨ w.heap.size ≤ b) : Hold w0 w' T' B s lx I lc dx N dc ps := by
  have h1 := h.bel.size
  have h2 := h.blk.lt
  refine ⟨h.doc.kept hk hT, h.blk.kept hk h.nb, fun e => ?_, h.bel.trans (hk.below h1 (fun b hb e => ?_)), fun b hb => ?_⟩
  · rcases hT B e with e | e
    · exact h.nb e
    · omega
  · have := h.low b e; omega
  · rcases hT b hb with e | e
    · exact h.low b e
    · omega
theorem Hold.below {w0 w w' : World} {T : Nat → Prop} {B : Nat} {s : Vst} {lx : Option Addr} {I lc : Nat} {dx : Option Addr} {N dc : Nat} {ps : List (Ndl × Value)} (h : Hold w0 w T B s lx I lc dx N dc ps) (hb : Below w.heap.size w w') : Hold w0 w' T B s lx I lc dx N dc ps := h.kept (Kept.of_below hb (Nat.le_refl _)) (fun b hb => .inl hb)
theorem far_small {l : List A9v} (h : farA (l.map (·.1)) = false) : ∀ x ∈ l, x.1.n.data.length ≤ 300 := by
  unfold farA at h
  rw [Bool.or_eq_false_iff] at h
  intro x hx
  have h2 := h.2
  rw [List.any_eq_false] at h2
  have := h2 x.1 (List.mem_map.2 ⟨x, hx, rfl⟩)
  simpa using this

set_option maxRecDepth 100000 in
set_option maxHeartbeats 4000000 in
theorem ckptNil_all (v : Value) (l : List A9v) (w : World) (h : IsA w v l) (hf : ∀ x ∈ l, x.1.n.fits) :
    Calls Tryz.prog 3 #[v] w fun e w' => e = .returned (.bool true) ∧ Below w.heap.size w w' := by
  have hlen := fun W => len_X (P := Tryz.prog) h.1 22 3 _ Tryz.underlying22 W
  obtain ⟨L, hL⟩ : ∃ L, l.length = L := ⟨_, rfl⟩
  rw [hL] at hlen
  have HA := Lib.hid (alive10 w)
  have HH := Lib.hid h
  have HL := Lib.hid hL
  have HF := Lib.hid hf
  clear h hL hf
  by_cases h8 : 8 < L
  · have h8' : (8 : Int) < (L : Int) := by omega
    go_enter Tryz.func3, Tryz.ntmps3
    go_wp2_with fail
    refine HA.out.mono ?_
    rintro e w1 ⟨rfl, hb⟩
    have HB := Lib.hid hb
    clear hb
    go_wp2
    go_ret
    exact ⟨rfl, HB.out⟩
  · have h8' : ¬ (8 : Int) < (L : Int) := by omega
    have HFA := Lib.hid (fun wx (hb : Below w.heap.size w wx) => far_any v l wx (HH.out.mono hb (Nat.le_refl _)) (by have := HL.out; omega))
    cases hr : farA (l.map (·.1)) with
    | true =>
      rw [hr] at HFA
      clear hr
      go_enter Tryz.func3, Tryz.ntmps3
      go_wp2_with fail
      refine HA.out.mono ?_
      rintro e w1 ⟨rfl, hb⟩
      have HB := Lib.hid hb
      clear hb
      go_wp2_with fail
      refine (HFA.out _ HB.out).mono ?_
      rintro e w2 ⟨rfl, rfl⟩
      go_wp2
      go_ret
      exact ⟨rfl, HB.out⟩
    | false =>
      have HM := Lib.hid (fun wx (hb : Below w.heap.size w wx) => made_any v l wx (HH.out.mono hb (Nat.le_refl _)) (by have := HL.out; omega) (far_small hr) HF.out)
      rw [hr] at HFA
      clear hr
      rw [HL.out] at HM
      go_enter Tryz.func3, Tryz.ntmps3
      go_wp2_with fail
      refine HA.out.mono ?_
      rintro e w1 ⟨rfl, hb⟩
      have HB := Lib.hid hb
      clear hb
      go_wp2_with fail
      refine (HFA.out _ HB.out).mono ?_
      rintro e w1' ⟨rfl, rfl⟩
      go_wp2_with fail
      refine (HM.out _ HB.out).mono ?_
      rintro e w2 ⟨g, p, S, d, k, s, lv, dv, ps, rfl, hr, hdoc, hb, hS, hm⟩
      obtain ⟨lx, lc, rfl, _, _⟩ := IsX.slice hdoc.l
      obtain ⟨dx, dc, rfl, _, _⟩ := IsX.slice hdoc.d.1
      obtain ⟨I, hI⟩ : ∃ I, s.idx.length = I := ⟨_, rfl⟩
      obtain ⟨N, hN⟩ : ∃ N, ps.length = N := ⟨_, rfl⟩
      rw [hI, hN] at hdoc ⊢
      have HR := Lib.hid hr
      have HD := Lib.hid hdoc
      have HS := Lib.hid hS
      have HB2 := Lib.hid hb
      have HMF := Lib.hid hm
      clear hr hdoc hb hS hm hI hN HM HFA HA
      go_wp2_with fail
      obtain ⟨w3, hw3⟩ : ∃ w3, w2.alloc (.cells #[.int .i64 (s.num : Int), .int .i64 (s.most : Int), .int .i64 (s.epoch : Int), .int .i64 (s.size : Int), .bool s.shut, .slice lx I lc, .slice dx N dc] 30) = w3 := ⟨_, rfl⟩
      obtain ⟨B, hBq⟩ : ∃ B, w2.heap.size = B := ⟨_, rfl⟩
      have HO3 := Lib.hid (show Hold w w3 S B s lx I lc dx N dc ps by
        have hb3 : Below w2.heap.size w2 w3 := by rw [← hw3]; exact below_alloc _ _
        have h1 := HB.out.size
        refine ⟨HD.out.below hb3, ?_, fun e => ?_, (HB.out.trans (HB2.out.mono h1)).trans (hb3.mono (by have := HB2.out.size; omega)), fun b hb => ?_⟩
        · rw [← hw3, ← hBq]; exact Blk.new w2 _ _
        · have := HR.out.vl.lt _ e; omega
        · have := HS.out b hb; omega)
      have HR3 := Lib.hid (show Vready w3 g p S d k s by rw [← hw3]; exact HR.out.below (below_alloc _ _))
      rw [hw3, hBq]
      clear hw3 hBq HR HD HS HB HB2
      refine (step_nil _).mono ?_
      rintro e w' ⟨rfl, rfl⟩
      go_wp2_with fail
      refine (cknew_nod _ _).mono ?_
      rintro e w' ⟨rfl, rfl⟩
      go_wp2_with fail
      refine (cknew_nov p _).mono ?_
      rintro e w' ⟨rfl, rfl⟩
      go_wp2_with fail
      refine (code_code 15 _ (by decide) (by decide)).mono ?_
      rintro e w' ⟨rfl, rfl⟩
      go_wp2_with fail
      refine (code_code 15 _ (by decide) (by decide)).mono ?_
      rintro e w' ⟨rfl, rfl⟩
      go_wp2_with fail
      refine (code_code 15 _ (by decide) (by decide)).mono ?_
      rintro e w' ⟨rfl, rfl⟩
      go_wp2_with fail
      refine (upto_nil _).mono ?_
      rintro e w' ⟨rfl, rfl⟩
      go_wp2_with fail
      have hkk : k ≤ 96 := by have := HMF.out.few; omega
      refine (create_big g p k S d s w3 HR3.out (by omega) (HMF.out.views _ (nmBig_D _ _) (nmBig_M _) (nmBig_S _)) (by rw [HMF.out.names]; decide)).mono ?_
      rintro e w4 ⟨d4, rfl, ⟨S4, hr4, hk4, hs4⟩, hwe4⟩
      have HR4 := Lib.hid hr4
      have HO4 := Lib.hid (HO3.out.kept hk4 hs4)
      have HW4 := Lib.hid hwe4
      clear hr4 hk4 hs4 hwe4 HR3 HO3
      go_wp2_with fail
      obtain ⟨U, hU⟩ : ∃ U, d4.used = U := ⟨_, rfl⟩
      have HUB := Lib.hid (show U ≤ 1048576 by
        have h1 := HW4.out.used
        have h2 := HMF.out.used
        have h3 := HMF.out.size
        omega)
      obtain ⟨K, hK⟩ : ∃ K, 1048576 - U = K := ⟨_, rfl⟩
      have e1 : IntKind.i64.wrap (1048576 - (U : Int)) = (K : Int) := by
        have := HUB.out
        rw [IntWalk.i64_in _ (by omega)]; omega
      have HU := Lib.hid hU
      have HK := Lib.hid hK
      obtain ⟨M, hM⟩ := made_zero K (by omega)
      have hmk := fun W => (hM W).1
      have HMB := Lib.hid (fun W => (hM W).2)
      have HUS := Lib.hid (show Calls Tryz.prog 13 #[.pointer (some ⟨p, 0, none⟩)] w4 (fun e w' => e = .returned (.int .i64 (U : Int)) ∧ Below w4.heap.size w4 w') by
        obtain ⟨Sd, hd, _⟩ := HR4.out.vl.disk
        rw [← hU]
        exact used_u w4 p Sd d4 _ hd)
      clear hU hK hM
      refine HUS.out.mono ?_
      rintro e w5 ⟨rfl, hb5⟩
      have HR5 := Lib.hid (HR4.out.below hb5)
      have HO5 := Lib.hid (HO4.out.below hb5)
      clear hb5 HUS HR4 HO4
      go_wp2_with fail
      have HR6 := Lib.hid (HR5.out.below (below_alloc w5 (.cells M 5)))
      have HO6 := Lib.hid (HO5.out.below (below_alloc w5 (.cells M 5)))
      refine (append_big g p (k + 2) S4 d4 s _ (List.replicate K 0) _ HR6.out (HMB.out w5) (by omega) (by rw [HW4.out.view, if_pos rfl]) (by rw [HW4.out.len, HMF.out.names]; decide) (by rw [List.length_replicate]; have := HK.out; omega) (by rw [List.length_replicate, HW4.out.cap, HMF.out.cap]; have := HK.out; have := HU.out; have := HUB.out; omega)).mono ?_
      rintro e w7 ⟨d7, rfl, ⟨S7, hr7, hk7, hs7⟩, hwe7⟩
      have HR7 := Lib.hid hr7
      have HO7 := Lib.hid (HO6.out.kept hk7 hs7)
      have HW7 := Lib.hid hwe7
      clear hr7 hk7 hs7 hwe7 HR5 HO5 HR6 HO6 HMB hmk e1
      go_wp2_with fail
      refine (cknew_ok p g w7).mono ?_
      rintro e w8 ⟨rfl, hq, hb8⟩
      obtain ⟨q, hqq⟩ : ∃ q, w7.heap.size = q := ⟨_, rfl⟩
      have HO8 := Lib.hid (HO7.out.kept (T' := fun b => S7 b ∨ b = q) (Kept.of_below hb8 (Nat.le_refl _)) (fun b hb => hb.elim .inl (fun e => .inr (by omega))))
      have HR8 := Lib.hid (HR7.out.below hb8)
      have HNQ := Lib.hid (show ¬ S7 q from fun e => by have := HR7.out.vl.lt _ e; omega)
      rw [hqq] at hq ⊢
      have HQ8 := Lib.hid hq
      clear hq hb8 hqq HO7 HR7
      have HC0 := Lib.hid (show view d7 (nmC s.num 0) = none by
        rw [HW7.out.view, if_neg (nmBig_C _ _).symm, HW4.out.view, if_neg (nmBig_C _ _).symm]
        exact names_free HMF.out 0)
      go_wp2_with fail
      refine (step1_w q p g (k + 2 + 2) S7 d7 s w8 HQ8.out HR8.out HNQ.out HC0.out (by omega) (by rw [HW7.out.len, HW4.out.len, HMF.out.names]; decide)).mono ?_
      rintro e w9 ⟨d9, vx, vc, rfl, ⟨S9, hw9, hk9, hs9⟩, hwe9⟩
      have HO9 := Lib.hid (HO8.out.kept (T' := fun b => S9 b ∨ b = q) hk9 (fun b hb => hb.elim (fun e => (hs9 b e).elim (fun e => .inl (.inl e)) .inr) (fun e => .inl (.inr e))))
      have HWR9 := Lib.hid hw9
      have HW9 := Lib.hid hwe9
      clear hw9 hk9 hs9 hwe9 HO8 HR8 HNQ HQ8 HC0
      go_wp2_with fail
      refine (step2_full q p g (k + 2 + 2 + 4) S9 d9 s _ w9 HWR9.out (by rw [HW9.out.view, if_pos rfl]) (by
        have h1 := HW9.out.used
        have h2 := HW7.out.used
        have h3 := HW9.out.cap
        have h4 := HW7.out.cap
        have h5 := HW4.out.cap
        have h6 := HMF.out.cap
        have h7 := HK.out
        have h8 := HU.out
        have h9 := HUB.out
        rw [List.length_replicate] at h2
        omega) (by omega)).mono ?_
      rintro e w10 ⟨rfl, S10, hw10, hk10, hs10⟩
      have HO10 := Lib.hid (HO9.out.kept (T' := fun b => S10 b ∨ b = q) hk10 (fun b hb => hb.elim (fun e => (hs10 b e).elim (fun e => .inl (.inl e)) .inr) (fun e => .inl (.inr e))))
      have HWR10 := Lib.hid hw10
      clear hw10 hk10 hs10 HO9 HWR9 HW9 HW7 HW4 HMF
      go_wp2_with fail
      refine (step6_w q p g _ S10 d9 s _ _ w10 HWR10.out).mono ?_
      rintro e w' ⟨rfl, rfl⟩
      go_wp2_with fail
      refine (code_code 11 _ (by decide) (by decide)).mono ?_
      rintro e w' ⟨rfl, rfl⟩
      go_wp2_with fail
      refine (code_code 16 _ (by decide) (by decide)).mono ?_
      rintro e w' ⟨rfl, rfl⟩
      have y0 := HO10.out.blk.cell 0 rfl
      have y1 := HO10.out.blk.cell 1 rfl
      have y2 := HO10.out.blk.cell 2 rfl
      have y3 := HO10.out.blk.cell 3 rfl
      have y4 := HO10.out.blk.cell 4 rfl
      have y5 := HO10.out.blk.cell 5 rfl
      have y6 := HO10.out.blk.cell 6 rfl
      have HSM := Lib.hid (show Calls Tryz.prog 14 #[.pointer (some ⟨g, 0, none⟩), .agg #[.int .i64 (s.num : Int), .int .i64 (s.most : Int), .int .i64 (s.epoch : Int), .int .i64 (s.size : Int), .bool s.shut, .slice lx I lc, .slice dx N dc]] w10 (fun e w' => e = .returned (.bool true) ∧ Below w10.heap.size w10 w') by
        obtain ⟨S11, hr11⟩ := HWR10.out.ready
        exact same_v g p _ S11 d9 s _ (.slice lx I lc) (.slice dx N dc) ps w10 hr11 HO10.out.doc)
      go_wp2_with fail
      refine HSM.out.mono ?_
      rintro e w11 ⟨rfl, hb11⟩
      have HB11 := Lib.hid (HO10.out.below hb11).bel
      clear hb11 HSM y0 y1 y2 y3 y4 y5 y6
      go_wp2
      go_ret
      exact ⟨rfl, HB11.out⟩

end Go.Proofs.YtdchcepgbbdmhaaGreatDoor
end

section
namespace Go.Cor
open Go.RowKit

theorem wf_u32 {a : Int} (h : (Lit.int .u32 a).wf = true) : 0 ≤ a ∧ a < 4294967296 := by
  have : 0 ≤ a ∧ a ≤ 4294967295 := by simpa [Lit.wf, IntKind.min, IntKind.max, IntKind.bits, IntKind.signed] using h
  omega
theorem wf_u64 {a : Int} (h : (Lit.int .u64 a).wf = true) : 0 ≤ a ∧ a < 18446744073709551616 := by
  have : 0 ≤ a ∧ a ≤ 18446744073709551615 := by simpa [Lit.wf, IntKind.min, IntKind.max, IntKind.bits, IntKind.signed] using h
  omega
theorem isB_of_row {w : World} {a : Option Addr} {len cap : Nat} {zs : List Int}
    (h : (a = none ∧ len = 0 ∧ cap = 0 ∧ zs = []) ∨
      ∃ x, a = some x ∧ len ≤ cap ∧ cap ≤ maxLen ∧ zs.length = cap ∧ (∀ i, i < zs.length → w.cell? (x.add i) = some (.int .u8 (zs.getD i 0))) ∧ ∀ n ∈ zs, (Lit.int .u8 n).wf = true) :
    ∃ l : List UInt8, l.length = len ∧ IsB w (.slice a len cap) l := by
  rcases h with ⟨rfl, rfl, rfl, rfl⟩ | ⟨x, rfl, hl, hm, hz, hcell, hwz⟩
  · exact ⟨[], rfl, IsB.nil w⟩
  · have hlen : ((zs.take len).map fun z => UInt8.ofNat z.toNat).length = len := by simp; omega
    refine ⟨(zs.take len).map fun z => UInt8.ofNat z.toNat, hlen, some x, cap, by rw [hlen], by omega, hm, by simp, ?_⟩
    by_cases h0 : len = 0
    · subst h0
      exact .inl (by simp)
    · obtain ⟨b, off, spot⟩ := x
      have hc := hcell 0 (by omega)
      have hspot : spot = none := by simpa [Addr.add] using World.cell?_spot hc
      subst hspot
      refine .inr ⟨b, off, rfl, fun i hi => ?_⟩
      rw [hlen] at hi
      have h1 := hcell i (by omega)
      have hadd : (⟨b, off, none⟩ : Addr).add i = ⟨b, off + i, none⟩ := by unfold Addr.add; split <;> simp_all
      rw [hadd] at h1
      rw [h1]
      have hwf := hwz (zs.getD i 0) (by rw [List.getD_eq_getElem?_getD, List.getElem?_eq_getElem (by omega)]; simp)
      have hb : 0 ≤ zs.getD i 0 ∧ zs.getD i 0 ≤ 255 := by simpa [Lit.wf, IntKind.min, IntKind.max, IntKind.bits, IntKind.signed] using hwf
      have e : ((zs.take len).map fun z => UInt8.ofNat z.toNat).getD i 0 = UInt8.ofNat (zs.getD i 0).toNat := by
        simp only [List.getD_eq_getElem?_getD, List.getElem?_map, List.getElem?_take, if_pos hi]
        rw [List.getElem?_eq_getElem (by omega)]
        simp
      rw [e]
      show some (Value.int .u8 (zs.getD i 0)) = some (.int .u8 (((UInt8.ofNat (zs.getD i 0).toNat).toNat : Nat) : Int))
      rw [UInt8.toNat_ofNat']
      congr 2
      omega

end Go.Cor
end

section
namespace Go.Cor
open Go.RowKit Go.ChangeShapes Go.WideShapes Go.Joins Go.Deep
variable {H : Type} {enc : TypeId × Value → H} {W : World} {P : Program}

theorem list_of {α : Type} {Q : Nat → α → Prop} (n : Nat) (h : ∀ i, i < n → ∃ x, Q i x) : ∃ l : List α, l.length = n ∧ ∀ i x, l[i]? = some x → Q i x := by
  induction n with
  | zero => exact ⟨[], rfl, fun i x h => by simp at h⟩
  | succ k ih =>
    obtain ⟨l, hlen, hl⟩ := ih (fun i hi => h i (by omega))
    obtain ⟨x, hx⟩ := h k (by omega)
    refine ⟨l ++ [x], by simp [hlen], fun i y hi => ?_⟩
    by_cases hik : i < k
    · rw [List.getElem?_append_left (by omega)] at hi
      exact hl i y hi
    · have hlt := (List.getElem?_eq_some_iff.1 hi).1
      simp [hlen] at hlt
      obtain rfl : i = k := by omega
      rw [List.getElem?_append_right (by omega), hlen] at hi
      simp at hi
      subst hi
      exact hx

theorem rows_of_trod {α : Type} {size : Nat} {T U : TypeId} (en : α → List Value) (good : α → Prop) (hT : P.underlying T = some (.slice U)) (hC : P.cellsOf U = size) (hs : 0 < size) (hen : ∀ x, (en x).length = size)
    (el : ∀ fuel cs y, DataW.trod enc P W 0 (fun _ => true) true fuel U cs = some y → ∃ x, cs = en x ∧ good x)
    {fuel : Nat} {c : Value} {y : DataW H × List MemPlace} (h : DataW.trod enc P W 0 (fun _ => true) true fuel T [c] = some y) :
    ∃ l : List α, IsX W size c l.length (row en l) ∧ ∀ x ∈ l, good x := by
  rcases open_slice hT h with ⟨hcs, _⟩ | ⟨x, len, cap, m, k, D, Pl, hcs, _, hl, hm, hmm, _, hi⟩
  · simp only [List.cons.injEq, and_true] at hcs
    subst hcs
    exact ⟨[], IsX.nil _ _, fun x hx => by cases hx⟩
  · simp only [List.cons.injEq, and_true] at hcs
    subst hcs
    have hml : len ≤ m := by simp at hmm; omega
    obtain ⟨b, off, spot⟩ := x
    have each : ∀ i, i < len → ∃ z : α, good z ∧ ∀ j, j < size → W.cell? (((⟨b, off, spot⟩ : Addr).add (i * size)).add j) = (en z)[j]? := fun i hil => by
      obtain ⟨cs', hc, ht⟩ := hi i (by omega)
      rw [hC] at hc
      obtain ⟨_, hcl, hat⟩ := World.cells?_some hc
      obtain ⟨z, rfl, hz⟩ := el _ _ _ ht
      exact ⟨z, hz, hat⟩
    obtain ⟨l, hlen, hl'⟩ := list_of len each
    refine ⟨l, ⟨some ⟨b, off, spot⟩, cap, by rw [hlen], by omega, hm, length_row hen l, (fun h => by cases h), ?_⟩, fun z hz => ?_⟩
    · by_cases h0 : len = 0
      · exact .inl (by omega)
      · have hspot : spot = none := by
          obtain ⟨z, _, hat⟩ := each 0 (by omega)
          have h1 : (en z)[0]? = some ((en z)[0]'(by rw [hen]; exact hs)) := List.getElem?_eq_getElem _
          have := World.cell?_spot ((hat 0 hs).trans h1)
          simpa [Addr.add] using this
        subst hspot
        simp only [add_lit] at hl'
        refine .inr ⟨b, off, rfl, fun j hj => ?_⟩
        rw [hlen] at hj
        have hq : j / size < len := Nat.div_lt_of_lt_mul (by rw [Nat.mul_comm]; exact hj)
        have hz := List.getElem?_eq_getElem (l := l) (i := j / size) (by omega)
        obtain ⟨_, hc⟩ := hl' _ _ hz
        have hm2 := Nat.mod_lt j hs
        have e : j = j / size * size + j % size := by rw [Nat.mul_comm]; exact (Nat.div_add_mod j size).symm
        have h1 := hc (j % size) hm2
        have h2 := row_get hen hz (j % size) hm2
        rw [← e] at h2
        rw [h2, ← h1]
        congr 2
        omega
    · obtain ⟨i, hi'⟩ := List.getElem?_of_mem hz
      exact (hl' i z hi').1

end Go.Cor
end

section
namespace Go.Proofs.YtdchcepgbbdmhaaGreatDoor
open Go.RowKit Go.Cor Go.ChangeShapes Go.WideShapes Go.Joins Go.Deep
variable {H : Type} {enc : TypeId × Value → H} {W : World}

theorem isB_of_trod {fuel : Nat} {c : Value} {y : DataW H × List MemPlace} (h : DataW.trod enc Tryz.prog W 0 (fun _ => true) true fuel 44 [c] = some y) : ∃ l : List UInt8, IsB W c l := by
  rcases open_ints Tryz.underlying44 Tryz.underlying5 (by kernel_rfl) h with ⟨hcs, _⟩ | ⟨x, l, c', zs, hcs, _, hl, hm, hz, _, hcell, hwz⟩
  · simp only [List.cons.injEq, and_true] at hcs
    subst hcs
    exact ⟨[], IsB.nil _⟩
  · simp only [List.cons.injEq, and_true] at hcs
    subst hcs
    obtain ⟨l', e, h'⟩ := isB_of_row (w := W) (a := some x) (len := l) (cap := c') (zs := zs) (.inr ⟨x, rfl, hl, hm, by simpa using hz, hcell, hwz⟩)
    exact ⟨l', h'⟩
theorem Tryz.coI9 : Tryz.prog.cellsOf 3 = 1 := by kernel_rfl
theorem Tryz.coK9 : Tryz.prog.cellsOf 48 = 1 := by kernel_rfl
theorem Tryz.coC9 : Tryz.prog.cellsOf 49 = 1 := by kernel_rfl
theorem Tryz.coG9 : Tryz.prog.cellsOf 4 = 1 := by kernel_rfl
theorem Tryz.coD9 : Tryz.prog.cellsOf 44 = 1 := by kernel_rfl
theorem Tryz.coN9 : Tryz.prog.cellsOf 51 = 4 := by kernel_rfl
theorem Tryz.coA9 : Tryz.prog.cellsOf 53 = 6 := by kernel_rfl
theorem list6 {α : Type} {l : List α} (h : l.length = 6) : ∃ a b c d e f, l = [a, b, c, d, e, f] := by
  match l, h with
  | [a, b, c, d, e, f], _ => exact ⟨a, b, c, d, e, f, rfl⟩
theorem trod_s3 {P : Program} {t : TypeId} {f0 f1 f2 : Field} {fuel : Nat} {cs : List Value} {x : DataW H × List MemPlace} (ht : P.underlying t = some (.struct #[f0, f1, f2])) (h : DataW.trod enc P W 0 (fun _ => true) true fuel t cs = some x) :
    ∃ y0 y1 y2 n, cs.length = P.cellsOf t ∧ DataW.trod enc P W 0 (fun _ => true) true n f0.type ((cs.drop f0.offset).take (P.cellsOf f0.type)) = some y0 ∧ DataW.trod enc P W 0 (fun _ => true) true n f1.type ((cs.drop f1.offset).take (P.cellsOf f1.type)) = some y1 ∧ DataW.trod enc P W 0 (fun _ => true) true n f2.type ((cs.drop f2.offset).take (P.cellsOf f2.type)) = some y2 := by
  obtain ⟨xs, n, _, _, hl, hlen, hf⟩ := DataW.trod_struct ht h
  match xs, hlen with
  | [y0, y1, y2], _ => exact ⟨y0, y1, y2, n, hl, by simpa using hf 0 f0 rfl, by simpa using hf 1 f1 rfl, by simpa using hf 2 f2 rfl⟩
theorem trod_s4 {P : Program} {t : TypeId} {f0 f1 f2 f3 : Field} {fuel : Nat} {cs : List Value} {x : DataW H × List MemPlace} (ht : P.underlying t = some (.struct #[f0, f1, f2, f3])) (h : DataW.trod enc P W 0 (fun _ => true) true fuel t cs = some x) :
    ∃ y0 y1 y2 y3 n, cs.length = P.cellsOf t ∧ DataW.trod enc P W 0 (fun _ => true) true n f0.type ((cs.drop f0.offset).take (P.cellsOf f0.type)) = some y0 ∧ DataW.trod enc P W 0 (fun _ => true) true n f1.type ((cs.drop f1.offset).take (P.cellsOf f1.type)) = some y1 ∧ DataW.trod enc P W 0 (fun _ => true) true n f2.type ((cs.drop f2.offset).take (P.cellsOf f2.type)) = some y2 ∧ DataW.trod enc P W 0 (fun _ => true) true n f3.type ((cs.drop f3.offset).take (P.cellsOf f3.type)) = some y3 := by
  obtain ⟨xs, n, _, _, hl, hlen, hf⟩ := DataW.trod_struct ht h
  match xs, hlen with
  | [y0, y1, y2, y3], _ => exact ⟨y0, y1, y2, y3, n, hl, by simpa using hf 0 f0 rfl, by simpa using hf 1 f1 rfl, by simpa using hf 2 f2 rfl, by simpa using hf 3 f3 rfl⟩
set_option maxRecDepth 10000 in
theorem act9_of_trod (fuel : Nat) (cs : List Value) (y : DataW H × List MemPlace) (h : DataW.trod enc Tryz.prog W 0 (fun _ => true) true fuel 53 cs = some y) : ∃ x : A9v, cs = acl x ∧ (IsB W x.2 x.1.n.data ∧ x.2.oneCell' = true) ∧ x.1.n.fits := by
  obtain ⟨y0, y1, y2, n, hl, h0, h1, h2⟩ := trod_s3 Tryz.underlying53 h
  rw [Tryz.coA9] at hl
  obtain ⟨c0, c1, c2, c3, c4, c5, rfl⟩ := list6 hl
  simp only [Tryz.coI9, Tryz.coN9, List.drop_zero, List.drop_succ_cons, List.take_succ_cons, List.take_zero] at h0 h1 h2
  obtain ⟨z0, z1, z2, z3, n2, _, g0, g1, g2, g3⟩ := trod_s4 Tryz.underlying51 h2
  simp only [Tryz.coK9, Tryz.coC9, Tryz.coG9, Tryz.coD9, List.drop_zero, List.drop_succ_cons, List.take_succ_cons, List.take_zero] at g0 g1 g2 g3
  obtain ⟨a0, e0, _, w0⟩ := DataW.trod_int Tryz.underlying3 h0
  obtain ⟨a1, e1, _, w1⟩ := DataW.trod_int Tryz.underlying3 h1
  obtain ⟨a2, e2, _, w2⟩ := DataW.trod_int Tryz.underlying48 g0
  obtain ⟨a3, e3, _, w3⟩ := DataW.trod_int Tryz.underlying49 g1
  obtain ⟨a4, e4, _⟩ := DataW.trod_bool Tryz.underlying4 g2
  obtain ⟨b, hb⟩ := isB_of_trod g3
  simp only [List.cons.injEq, and_true] at e0 e1 e2 e3 e4
  subst e0 e1 e2 e3 e4
  have b2 := wf_u64 w2
  have b3 := wf_u32 w3
  obtain ⟨k, rfl⟩ := Int.eq_ofNat_of_zero_le b2.1
  obtain ⟨c, rfl⟩ := Int.eq_ofNat_of_zero_le b3.1
  refine ⟨(⟨a0, a1, ⟨k, c, a4, b⟩⟩, c5), rfl, ⟨hb, ?_⟩, ⟨by show k < 18446744073709551616; omega, by show c < 4294967296; omega⟩⟩
  obtain ⟨x, cap, rfl, _⟩ := hb
  rfl
theorem acts9_of_trod {fuel : Nat} {c : Value} {y : DataW H × List MemPlace} (h : DataW.trod enc Tryz.prog W 0 (fun _ => true) true fuel 22 [c] = some y) : ∃ l : List A9v, IsA W c l ∧ ∀ x ∈ l, x.1.n.fits := by
  obtain ⟨l, h1, h2⟩ := rows_of_trod acl (fun x => (IsB W x.2 x.1.n.data ∧ x.2.oneCell' = true) ∧ x.1.n.fits) Tryz.underlying22 Tryz.coA9 (by decide) acl_len act9_of_trod h
  exact ⟨l, ⟨h1, fun x hx => (h2 x hx).1⟩, fun x hx => (h2 x hx).2⟩

end Go.Proofs.YtdchcepgbbdmhaaGreatDoor
end
