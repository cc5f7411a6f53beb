/- Package disk: Append, Arm, SyncNames, New: by contracts. -/
import Derived.Test.YtnofabeajcdddaaOps2
namespace Go.Proofs.Ytnofabeajcdddaa
open Go.RowKit Go.Cor

theorem Ready.below {w w' : World} {L : Lay} {d : Dsk} {k B : Nat} (h : Ready w L d k) (hb : Below B w w') (hB : w.heap.size ≤ B) : Ready w' L d k := ⟨h.at'.below hb hB, h.cr, h.ok, h.small⟩
theorem regU_call {w wx wy : World} {p : Nat} {v : Value} (h : wx.cell? ⟨p, 0, none⟩ = some v ∧ Below w.heap.size w wx) (hp : p < w.heap.size) (hb : Below wx.heap.size wx wy) : wy.cell? ⟨p, 0, none⟩ = some v ∧ Below w.heap.size w wy :=
  ⟨(hb.cell (p := ⟨p, 0, none⟩) (Nat.lt_of_lt_of_le hp h.2.size)).trans h.1, h.2.trans (hb.mono h.2.size)⟩

set_option maxRecDepth 100000 in
set_option maxHeartbeats 2000000 in
theorem append_any (w : World) (L : Lay) (d : Dsk) (k : Nat) (n : ByteArray) (v : Value) (l : List UInt8) (h : Ready w L d k) (hbv : IsB w v l) (hl : l.length ≤ 1000) :
    Calls Try.prog 19 #[.pointer (some ⟨L.p, 0, none⟩), .string n, v] w fun e w' => e = .returned (cerr (d.append n l).2) ∧ Fin' w L d w' (d.append n l).1 := by
  have H := Lib.hid h
  cases hd : isDown d.armed with
  | true =>
    rw [show d.append n l = (d, 12) from on_down hd]
    have HD := Lib.hid hd
    clear h hd
    go_enter Try.func19, Try.ntmps19
    go_wp2_with fail
    refine (find_down _ L d n H.out.at' HD.out).mono ?_
    rintro e w1 ⟨rfl, hb⟩
    have HB := Lib.hid hb
    clear hb
    go_wp2
    go_ret
    exact ⟨rfl, Fin'.same H.out.at' H.out.cr HB.out⟩
  | false =>
    cases hf : tfind d.now n with
    | none =>
      rw [show d.append n l = (d, 6) from on_none hd hf]
      have HD := Lib.hid hd
      have HF := Lib.hid hf
      have hln := h.now_len
      clear h hd hf
      go_enter Try.func19, Try.ntmps19
      go_wp2_with fail
      refine (find_none _ L d n H.out.at' HD.out H.out.ok.nowS (by omega) HF.out).mono ?_
      rintro e w1 ⟨rfl, hb⟩
      have HB := Lib.hid hb
      clear hb
      go_wp2
      go_ret
      exact ⟨rfl, Fin'.same H.out.at' H.out.cr HB.out⟩
    | some j =>
      have hj := h.file hf
      have hln := h.now_len
      have hfl := h.fil hj
      have HD := Lib.hid hd
      have HF := Lib.hid hf
      have HJ := Lib.hid hj
      clear h
      have hst : d.append n l = if 16777216 < (fat d.files j).b.length + l.length then (d, 2) else if d.cap < d.used + l.length then (d, 11) else ((d.setF j ⟨(fat d.files j).b ++ l, (fat d.files j).lasts⟩).done, 0) := on_some hd hf
      rw [hst]
      have HBV := Lib.hid hbv
      have hcap := H.out.ok.cap
      have hus := usedT_le d.files d.now (fun f hf => (H.out.ok.fil f hf).2)
      clear hd hf hst hbv
      obtain ⟨N, hN⟩ : ∃ N, (fat d.files j).b.length = N := ⟨_, rfl⟩
      have HN := Lib.hid hN
      rw [hN] at hfl
      rw [hN]
      clear hN
      obtain ⟨M, hM⟩ : ∃ M, l.length = M := ⟨_, rfl⟩
      have HM := Lib.hid hM
      rw [hM] at hl
      rw [hM]
      clear hM
      obtain ⟨U, hU⟩ : ∃ U, d.used = U := ⟨_, rfl⟩
      have HU := Lib.hid hU
      rw [show usedT d.files d.now = U from hU] at hus
      rw [hU]
      clear hU
      have hus' : U ≤ 1677721600000 := by omega
      by_cases h1 : 16777216 < N + M
      · rw [if_pos h1]
        have h1' : (16777216 : Int) - (N : Int) < (M : Int) := by omega
        go_enter Try.func19, Try.ntmps19
        go_wp2_with fail
        refine (find_some _ L d n j H.out.at' HD.out H.out.ok.nowS (by omega) HF.out).mono ?_
        rintro e w1 ⟨rfl, hb⟩
        have HB := Lib.hid hb
        have HA1 := Lib.hid (H.out.at'.below hb (Nat.le_refl _))
        have HX1 := Lib.hid (HA1.out.rest.box j HJ.out)
        have HY1 := Lib.hid (HA1.out.rest.byt j HJ.out)
        clear hb
        obtain ⟨c0, c1, c2⟩ := fbox_facts HX1.out
        have f1 := HX1.out.free 1
        have f2 := HX1.out.free 2
        have hlen := fun W => len_X (P := Try.prog) (IsX.own HY1.out) 37 3 _ Try.underlying37 W
        rw [HN.out] at hlen
        have hbl := fun W => len_X (P := Try.prog) (isX_of_B HBV.out) 37 3 _ Try.underlying37 W
        rw [HM.out] at hbl
        go_wp2
        go_ret
        exact ⟨rfl, Fin'.same H.out.at' H.out.cr HB.out⟩
      · rw [if_neg h1]
        have h1' : ¬ (16777216 : Int) - (N : Int) < (M : Int) := by omega
        by_cases h2 : d.cap < U + M
        · rw [if_pos h2]
          have h2' : (d.cap : Int) - (U : Int) < (M : Int) := by omega
          go_enter Try.func19, Try.ntmps19
          go_wp2_with fail
          refine (find_some _ L d n j H.out.at' HD.out H.out.ok.nowS (by omega) HF.out).mono ?_
          rintro e w1 ⟨rfl, hb⟩
          have HB := Lib.hid hb
          have HA1 := Lib.hid (H.out.at'.below hb (Nat.le_refl _))
          have HX1 := Lib.hid (HA1.out.rest.box j HJ.out)
          have HY1 := Lib.hid (HA1.out.rest.byt j HJ.out)
          clear hb
          obtain ⟨c0, c1, c2⟩ := fbox_facts HX1.out
          have f1 := HX1.out.free 1
          have f2 := HX1.out.free 2
          have hlen := fun W => len_X (P := Try.prog) (IsX.own HY1.out) 37 3 _ Try.underlying37 W
          rw [HN.out] at hlen
          have hbl := fun W => len_X (P := Try.prog) (isX_of_B HBV.out) 37 3 _ Try.underlying37 W
          rw [HM.out] at hbl
          obtain ⟨p0, _, _, _, _, _, _⟩ := box_facts HA1.out.blk
          have S0 : w1.drew.cell? ⟨L.p, 0, none⟩ = some (.int .i64 (d.cap : Int)) ∧ Below w1.heap.size w1 w1.drew := ⟨p0, (Below.refl _ w1).drew⟩
          have hpl := HA1.out.blk.lt
          have HR1 := Lib.hid (show Ready w1.drew L d k from (H.out.below HB.out (Nat.le_refl _)).below ((Below.refl _ w1).drew) (Nat.le_refl _))
          go_upto_region 6 with fail
          go_cut [37] from 28 to 37 (fun q wx => q = .bool true ∧ Hid (Below w1.heap.size w1 wx))
          case first =>
            go_region_held3 (fun wx => wx.cell? ⟨L.p, 0, none⟩ = some (.int .i64 (d.cap : Int)) ∧ Below w1.heap.size w1 wx) (first | exact S0 | exact regU_call S0 hpl (by assumption)) (first | (go_at_call 29; refine (used_any w1.drew L d k HR1.out).mono ?_; rintro e wa ⟨rfl, hba⟩; rw [HU.out]))
            go_wp2_with fail
            go_meet
            exact ⟨by rw [IntWalk.i64_in _ (by omega), decide_eq_true h2'], Lib.hid (regU_call S0 hpl hba).2⟩
          case rest =>
            obtain ⟨rfl, hbc⟩ := hcut
            clear S0 HR1 p0
            go_wp2
            go_ret
            exact ⟨rfl, Fin'.same H.out.at' H.out.cr (HB.out.trans (hbc.out.mono HB.out.size))⟩
        · rw [if_neg h2]
          have h2' : ¬ (d.cap : Int) - (U : Int) < (M : Int) := by omega
          obtain ⟨i0, hi, hz0, hz1, hz2⟩ := info_parts Try.infoU8
          have HI := Lib.hid hi
          have HZ0 := Lib.hid hz0
          have HZ1 := Lib.hid hz1
          have HZ2 := Lib.hid hz2
          clear hi hz0 hz1 hz2
          go_enter Try.func19, Try.ntmps19
          go_wp2_with fail
          refine (find_some _ L d n j H.out.at' HD.out H.out.ok.nowS (by omega) HF.out).mono ?_
          rintro e w1 ⟨rfl, hb⟩
          have HB := Lib.hid hb
          have HA1 := Lib.hid (H.out.at'.below hb (Nat.le_refl _))
          have HX1 := Lib.hid (HA1.out.rest.box j HJ.out)
          have HY1 := Lib.hid (HA1.out.rest.byt j HJ.out)
          clear hb
          obtain ⟨c0, c1, c2⟩ := fbox_facts HX1.out
          have f1 := HX1.out.free 1
          have f2 := HX1.out.free 2
          have hlen := fun W => len_X (P := Try.prog) (IsX.own HY1.out) 37 3 _ Try.underlying37 W
          rw [HN.out] at hlen
          have hbl := fun W => len_X (P := Try.prog) (isX_of_B HBV.out) 37 3 _ Try.underlying37 W
          rw [HM.out] at hbl
          obtain ⟨p0, _, _, _, _, _, _⟩ := box_facts HA1.out.blk
          have S0 : w1.drew.cell? ⟨L.p, 0, none⟩ = some (.int .i64 (d.cap : Int)) ∧ Below w1.heap.size w1 w1.drew := ⟨p0, (Below.refl _ w1).drew⟩
          have hpl := HA1.out.blk.lt
          have HR1 := Lib.hid (show Ready w1.drew L d k from (H.out.below HB.out (Nat.le_refl _)).below ((Below.refl _ w1).drew) (Nat.le_refl _))
          go_upto_region 6 with fail
          go_cut [37] from 28 to 37 (fun q wx => q = .bool false ∧ Hid (Below w1.heap.size w1 wx))
          case first =>
            go_region_held3 (fun wx => wx.cell? ⟨L.p, 0, none⟩ = some (.int .i64 (d.cap : Int)) ∧ Below w1.heap.size w1 wx) (first | exact S0 | exact regU_call S0 hpl (by assumption)) (first | (go_at_call 29; refine (used_any w1.drew L d k HR1.out).mono ?_; rintro e wa ⟨rfl, hba⟩; rw [HU.out]))
            go_wp2_with fail
            go_meet
            exact ⟨by rw [IntWalk.i64_in _ (by omega), decide_eq_false (Int.not_lt.2 h2')], Lib.hid (regU_call S0 hpl hba).2⟩
          case rest =>
            obtain ⟨rfl, hbc⟩ := hcut
            clear S0 HR1 p0
            have HBC := Lib.hid hbc.out
            clear hbc
            obtain ⟨w2, hw2⟩ : ∃ w2, w2 = wc := ⟨_, rfl⟩
            subst hw2
            have HBW := Lib.hid (HB.out.trans (HBC.out.mono HB.out.size))
            have HA2 := Lib.hid (HA1.out.below HBC.out (Nat.le_refl _))
            have HX2 := Lib.hid (HA2.out.rest.box j HJ.out)
            have HY2 := Lib.hid (HA2.out.rest.byt j HJ.out)
            have HV2 := Lib.hid (isX_of_B (HBV.out.mono HBW.out (Nat.le_refl _)))
            clear c0 c1 c2 f1 f2 HX1 HY1
            obtain ⟨c0, c1, c2⟩ := fbox_facts HX2.out
            go_wp2_with (at_builtin; refine wpList_append_X (by rfl) _ _ 37 37 rfl (fun _ _ _ => rfl) 0 5 i0 _ 1 1 Try.underlying37 HI.out HZ0.out HZ1.out HZ2.out rfl (by decide) (L.fv j) _ _ rfl HY2.out v _ _ rfl HV2.out (bvs_one l) (by unfold maxLen; rw [HN.out, HM.out]; omega) (by rw [HN.out, HM.out]; omega) (Nat.zero_le _) ?_)
            intro v4 w4 hown4 hgr4 hat4
            obtain ⟨x4, z4, rfl, hz4a, hz4b⟩ := ownsRow_slice hown4
            have hbb : (bvs (fat d.files j).b ++ bvs l) = bvs ((fat d.files j).b ++ l) := (bvs_append _ _).symm
            rw [hbb] at hown4
            have hapt : ¬ (L.fv j).ownBlock = some (L.fb j) := fun e => by cases HA2.out.rest.apt (.byt j) (.box j) _ ((own_byt HJ.out).trans e) (own_box HJ.out)
            have HX4 := Lib.hid (HX2.out.grown (w' := w4) hgr4 hapt)
            have hv4 : ∀ i, (Value.slice x4 ((fat d.files j).b.length + l.length) z4).ownBlock = some i → (L.fv j).ownBlock = some i ∨ w2.heap.size ≤ i := fun i e => by
              rcases hat4 with h | h
              · exact .inl (h ▸ e)
              · rw [h] at e
                cases e
                exact .inr (Nat.le_refl _)
            have HK4 := Lib.hid (((Kept.refl (fun i => some (L.fb j) = some i ∨ (L.fv j).ownBlock = some i) w2).grown hgr4 (fun i e => .inl (.inr e))).setCell (p := ⟨L.fb j, 1, none⟩) (.inl (.inl rfl)) (.slice x4 ((fat d.files j).b.length + l.length) z4))
            have hne4 : ∀ i, (Value.slice x4 ((fat d.files j).b.length + l.length) z4).ownBlock = some i → ¬ some (L.fb j) = some i := fun i e e2 => by
              cases e2
              rcases hv4 _ e with h | h
              · exact hapt h
              · have := HX2.out.lt
                omega
            have HY4 := Lib.hid (ownsRow_kept (S := fun i => some (L.fb j) = some i) hown4 ((Kept.refl (fun i => some (L.fb j) = some i) w4).setCell (p := ⟨L.fb j, 1, none⟩) (.inl rfl) (.slice x4 ((fat d.files j).b.length + l.length) z4)) hne4)
            have HF4 := Lib.hid (fin_file (f := ⟨(fat d.files j).b ++ l, (fat d.files j).lasts⟩) HA2.out H.out.cr HJ.out (HX4.out.set 1 (.slice x4 ((fat d.files j).b.length + l.length) z4)) (by have := HY4.out; rw [show ((⟨(fat d.files j).b ++ l, (fat d.files j).lasts⟩ : Fil)).b.length = (fat d.files j).b.length + l.length from List.length_append]; exact this) HK4.out hv4)
            clear hown4 hgr4 hat4 hv4 hne4 hapt hbb c0 c1 c2
            obtain ⟨c0, c1, c2⟩ := fbox_facts HX4.out
            have f1 := HX4.out.free 1
            go_wp2_with fail
            refine (Fin'.then_done HF4.out HD.out H.out.ok.arm).mono ?_
            rintro e w5 ⟨rfl, hF5⟩
            have HF5 := Lib.hid (Fin'.below HBW.out hF5)
            clear hF5
            go_wp2
            go_ret
            exact ⟨rfl, HF5.out⟩

set_option maxRecDepth 100000 in
set_option maxHeartbeats 1000000 in
theorem arm_any (w : World) (L : Lay) (d : Dsk) (k : Nat) (m : Int) (h : Ready w L d k) :
    Calls Try.prog 22 #[.pointer (some ⟨L.p, 0, none⟩), .int .i64 m] w fun e w' => e = .returned (cerr (d.arm m).2) ∧ Fin' w L d w' (d.arm m).1 := by
  have H := Lib.hid h
  cases hd : isDown d.armed with
  | true =>
    rw [show d.arm m = (d, 12) from by unfold Dsk.arm; rw [if_pos (isDown_true hd)]]
    have HD := Lib.hid hd
    clear h hd
    go_enter Try.func22, Try.ntmps22
    go_wp2_with fail
    refine (up_any _ L d H.out.at'.blk).mono ?_
    rintro e w' ⟨rfl, rfl⟩
    rw [HD.out, if_pos rfl]
    go_wp2
    go_ret
    exact ⟨rfl, Fin'.same H.out.at' H.out.cr (Below.refl _ _)⟩
  | false =>
    have hst : d.arm m = if m < 0 then (d, 1) else ({ d with armed := some m.toNat }, 0) := by unfold Dsk.arm; rw [if_neg (isDown_false hd)]
    rw [hst]
    have HD := Lib.hid hd
    clear h hd hst
    by_cases h1 : m < 0
    · rw [if_pos h1]
      go_enter Try.func22, Try.ntmps22
      go_wp2_with fail
      refine (up_any _ L d H.out.at'.blk).mono ?_
      rintro e w' ⟨rfl, rfl⟩
      rw [HD.out, if_neg (by decide)]
      go_wp2
      go_ret
      exact ⟨rfl, Fin'.same H.out.at' H.out.cr (Below.refl _ _)⟩
    · rw [if_neg h1]
      obtain ⟨q, rfl⟩ := Int.eq_ofNat_of_zero_le (show 0 ≤ m by omega)
      rw [show ((q : Int)).toNat = q from rfl]
      obtain ⟨_, _, _, _, _, c5, c6⟩ := box_facts H.out.at'.blk
      have f5 := H.out.at'.blk.free 5
      have f6 := H.out.at'.blk.free 6
      go_enter Try.func22, Try.ntmps22
      go_wp2_with fail
      refine (up_any _ L d H.out.at'.blk).mono ?_
      rintro e w' ⟨rfl, rfl⟩
      rw [HD.out, if_neg (by decide)]
      go_wp2
      go_ret
      have hb := (H.out.at'.blk.set 5 (.bool true)).set 6 (.int .i64 (q : Int))
      have hr := (H.out.at'.rest.setDsk 5 (.bool true)).setDsk 6 (.int .i64 (q : Int))
      exact ⟨rfl, L, rfl, H.out.cr, ⟨hb, ⟨hr.now, hr.las, hr.dee, hr.box, hr.byt, hr.apt, hr.plt⟩⟩, ((Kept.refl (fun k => ∃ t, L.own d.files.length t = some k) w).setCell (p := ⟨L.p, 5, none⟩) (.inl ⟨.dsk, rfl⟩) _).setCell (p := ⟨L.p, 6, none⟩) (.inl ⟨.dsk, rfl⟩) _, fun t b hb => .inl ⟨t, hb⟩⟩

/-- The names last as they are; none of the deeds does any more. -/
theorem Rest.setLas {w w' : World} {L : Lay} {d : Dsk} (h : Rest w L d) {v : Value} (ho : w'.ownsRow w.heap.size 104 2 v d.now.length (row (ent L.fb) d.now)) (hk : Kept (fun k => some L.p = some k) w w') :
    Rest w' { L with las := v, dee := .slice none 0 0 } { d with las := d.now, deeds := [] } where
  now := ownsRow_kept h.now hk (fun k e e2 => by cases h.apt .now .dsk k e e2)
  las := ownsRow_base ho (Nat.zero_le _)
  dee := World.ownsRow_nil _ _ _ _
  box k hl := (h.box k hl).kept hk (fun e2 => by cases h.apt (.box k) .dsk _ (own_box hl) e2)
  byt k hl := ownsRow_kept (h.byt k hl) hk (fun j e e2 => by cases h.apt (.byt k) .dsk j ((own_byt hl).trans e) e2)
  apt := by
    have h1 : Apt (({ L with dee := .slice none 0 0 } : Lay).own d.files.length) := h.apt.upd .dee w.heap.size h.lt (fun b hb => by cases hb) (fun t ht => by cases t <;> first | rfl | exact absurd rfl ht)
    have h2 : ∀ t b, (({ L with dee := .slice none 0 0 } : Lay).own d.files.length) t = some b → b < w.heap.size := fun t b hb => by
      cases t with
      | dee => cases hb
      | dsk => exact h.lt .dsk b hb
      | now => exact h.lt .now b hb
      | las => exact h.lt .las b hb
      | box k => exact h.lt (.box k) b hb
      | byt k => exact h.lt (.byt k) b hb
    exact h1.upd .las w.heap.size h2 (fun b hb => .inr (ho.lt b hb).1) (fun t ht => by cases t <;> first | rfl | exact absurd rfl ht)
  plt := Nat.lt_of_lt_of_le h.plt hk.size
theorem last_fin {w w' : World} {L : Lay} {d : Dsk} {v : Value} {a3 a4 : Value} (h : Rest w L d) (hc : L.cr = d.files.length) (hb : Blk w' L.p #[.int .i64 (d.cap : Int), .int .i64 (L.cr : Int), L.now, v, .slice none 0 0, .bool d.armed.isSome, .int .i64 (lft L d)] 82) (ho : w'.ownsRow w.heap.size 104 2 v d.now.length (row (ent L.fb) d.now)) (hk : Kept (fun k => some L.p = some k) w w') : Fin' w L d w' d.syncN := by
  refine ⟨{ L with las := v, dee := .slice none 0 0 }, rfl, hc, ⟨hb, h.setLas ho hk⟩, hk.mono (fun k _ hk => ⟨.dsk, hk⟩), fun t b hb => ?_⟩
  cases t with
  | dee => cases hb
  | las => exact .inr (ho.lt b hb).1
  | dsk => exact .inl ⟨.dsk, hb⟩
  | now => exact .inl ⟨.now, hb⟩
  | box k => exact .inl ⟨(.box k), hb⟩
  | byt k => exact .inl ⟨(.byt k), hb⟩

set_option maxRecDepth 100000 in
set_option maxHeartbeats 1000000 in
theorem syncNames_any (w : World) (L : Lay) (d : Dsk) (k : Nat) (h : Ready w L d k) :
    Calls Try.prog 21 #[.pointer (some ⟨L.p, 0, none⟩)] w fun e w' => e = .returned (cerr d.syncNames.2) ∧ Fin' w L d w' d.syncNames.1 := by
  have H := Lib.hid h
  cases hd : isDown d.armed with
  | true =>
    rw [show d.syncNames = (d, 12) from by unfold Dsk.syncNames; rw [if_pos (isDown_true hd)]]
    have HD := Lib.hid hd
    clear h hd
    go_enter Try.func21, Try.ntmps21
    go_wp2_with fail
    refine (up_any _ L d H.out.at'.blk).mono ?_
    rintro e w' ⟨rfl, rfl⟩
    rw [HD.out, if_pos rfl]
    go_wp2
    go_ret
    exact ⟨rfl, Fin'.same H.out.at' H.out.cr (Below.refl _ _)⟩
  | false =>
    rw [show d.syncNames = (d.syncN.done, 0) from by unfold Dsk.syncNames; rw [if_neg (isDown_false hd)]]
    have hln := h.now_len
    have HD := Lib.hid hd
    clear h hd
    go_enter Try.func21, Try.ntmps21
    go_wp2_with fail
    refine (up_any _ L d H.out.at'.blk).mono ?_
    rintro e w' ⟨rfl, rfl⟩
    rw [HD.out, if_neg (by decide)]
    go_wp2_with fail
    refine (lastNames_any _ L.p _ _ _ _ _ _ L.now d.now L.fb H.out.at'.blk H.out.at'.rest.now (by omega)).mono ?_
    rintro e w1 ⟨rfl, v', hb, ho, hk⟩
    have HF := Lib.hid (last_fin (a3 := .nilIface) (a4 := .nilIface) H.out.at'.rest H.out.cr hb ho hk)
    clear hb ho hk
    go_wp2_with fail
    refine (Fin'.then_done HF.out HD.out H.out.ok.arm).mono ?_
    rintro e w2 ⟨rfl, hF2⟩
    have HF2 := Lib.hid hF2
    clear hF2
    go_wp2
    go_ret
    exact ⟨rfl, HF2.out⟩

/-- A disk without files. -/
def newD (cap : Nat) : Dsk := ⟨cap, [], [], [], [], none⟩
theorem new_ok (cap : Nat) (w : World) (hc : cap ≤ 1073741824) :
    Calls Try.prog 10 #[.int .i64 (cap : Int)] w fun e w' => e = .returned (.tuple #[.pointer (some ⟨w.heap.size, 0, none⟩), .nilIface]) ∧ IsD w' w.heap.size (fun b => b = w.heap.size) (newD cap) ∧ Below w.heap.size w w' ∧ w.heap.size < w'.heap.size := by
  have h1 : ¬ (cap : Int) < 0 := by omega
  have h2 : ¬ (1073741824 : Int) < (cap : Int) := by omega
  go_enter Try.func10, Try.ntmps10
  go_wp2
  go_ret2
  have hb := Blk.new w #[.int .i64 (cap : Int), .int .i64 0, .slice none 0 0, .slice none 0 0, .slice none 0 0, .bool false, .int .i64 0] 82
  refine ⟨rfl, ⟨⟨w.heap.size, .slice none 0 0, .slice none 0 0, .slice none 0 0, fun _ => 0, fun _ => .slice none 0 0, 0, 0⟩, rfl, rfl, ⟨hb, World.ownsRow_nil _ _ _ _, World.ownsRow_nil _ _ _ _, World.ownsRow_nil _ _ _ _, (fun k hk => absurd hk (Nat.not_lt_zero _)), (fun k hk => absurd hk (Nat.not_lt_zero _)), ?_, hb.lt⟩, ?_⟩, (Below.refl _ _).alloc (Nat.le_refl _) _, hb.lt⟩
  · intro t u b ht hu
    cases t <;> first | cases ht | skip
    cases u <;> first | rfl | cases hu
  · intro t b hb'
    cases t <;> first | (cases hb'; done) | skip
    cases hb'
    rfl
theorem new_no (cap : Int) (w : World) (hc : cap < 0 ∨ 1073741824 < cap) :
    Calls Try.prog 10 #[.int .i64 cap] w fun e w' => e = .returned (.tuple #[.pointer none, ercode 1]) ∧ w = w' := by
  rcases hc with h | h
  · go_enter Try.func10, Try.ntmps10
    go_wp2
    go_ret2
    exact ⟨rfl, rfl⟩
  · have h' : ¬ cap < 0 := by omega
    go_enter Try.func10, Try.ntmps10
    go_wp2
    go_ret2
    exact ⟨rfl, rfl⟩

end Go.Proofs.Ytnofabeajcdddaa
