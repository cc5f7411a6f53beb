/- Package disk: the exported calls that find a file: by contracts. -/
import Derived.Test.YtnofabeajcdddaaFin
import Derived.Test.YtnofabeajcdddaaUsed
namespace Go.Proofs.Ytnofabeajcdddaa
open Go.RowKit Go.Cor

set_option maxRecDepth 100000 in
set_option maxHeartbeats 2000000 in
theorem size_any (w : World) (L : Lay) (d : Dsk) (k : Nat) (n : ByteArray) (h : Ready w L d k) :
    Calls Try.prog 27 #[.pointer (some ⟨L.p, 0, none⟩), .string n] w fun e w' => e = .returned (.tuple #[.int .i64 ((d.size n).1 : Int), cerr (d.size n).2]) ∧ Below w.heap.size w w' := by
  have H := Lib.hid h
  cases hd : isDown d.armed with
  | true =>
    rw [show d.size n = ((0 : Nat), 12) from on_down hd]
    have HD := Lib.hid hd
    clear h hd
    go_enter Try.func27, Try.ntmps27
    go_wp2_with fail
    refine (find_down _ L d n H.out.at' HD.out).mono ?_
    rintro e w1 ⟨rfl, hb⟩
    have HB := Lib.hid hb
    clear hb
    go_wp2
    go_ret2
    exact ⟨rfl, HB.out⟩
  | false =>
    cases hf : tfind d.now n with
    | none =>
      rw [show d.size n = ((0 : Nat), 6) from on_none hd hf]
      have HD := Lib.hid hd
      have HF := Lib.hid hf
      have hln := h.now_len
      clear h hd hf
      go_enter Try.func27, Try.ntmps27
      go_wp2_with fail
      refine (find_none _ L d n H.out.at' HD.out H.out.ok.nowS (by omega) HF.out).mono ?_
      rintro e w1 ⟨rfl, hb⟩
      have HB := Lib.hid hb
      clear hb
      go_wp2
      go_ret2
      exact ⟨rfl, HB.out⟩
    | some j =>
      have hj := h.file hf
      have hln := h.now_len
      have hfl := h.fil hj
      have HD := Lib.hid hd
      have HF := Lib.hid hf
      have HJ := Lib.hid hj
      clear h
      rw [show d.size n = ((fat d.files j).b.length, 0) from on_some hd hf]
      clear hd hf
      obtain ⟨N, hN⟩ : ∃ N, (fat d.files j).b.length = N := ⟨_, rfl⟩
      have HN := Lib.hid hN
      rw [hN] at hfl
      rw [hN]
      clear hN
      go_enter Try.func27, Try.ntmps27
      go_wp2_with fail
      refine (find_some _ L d n j H.out.at' HD.out H.out.ok.nowS (by omega) HF.out).mono ?_
      rintro e w1 ⟨rfl, hb⟩
      have HB := Lib.hid hb
      have HA1 := Lib.hid (H.out.at'.below hb (Nat.le_refl _))
      have HX1 := Lib.hid (HA1.out.rest.box j HJ.out)
      have HY1 := Lib.hid (HA1.out.rest.byt j HJ.out)
      clear hb
      obtain ⟨c0, c1, c2⟩ := fbox_facts HX1.out
      have f1 := HX1.out.free 1
      have f2 := HX1.out.free 2
      have hlen := fun W => len_X (P := Try.prog) (IsX.own HY1.out) 37 3 _ Try.underlying37 W
      rw [HN.out] at hlen
      go_wp2
      go_ret2
      exact ⟨rfl, HB.out⟩

set_option maxRecDepth 100000 in
set_option maxHeartbeats 2000000 in
theorem sync_any (w : World) (L : Lay) (d : Dsk) (k : Nat) (n : ByteArray) (h : Ready w L d k) :
    Calls Try.prog 20 #[.pointer (some ⟨L.p, 0, none⟩), .string n] w fun e w' => e = .returned (cerr (d.sync n).2) ∧ Fin' w L d w' (d.sync n).1 := by
  have H := Lib.hid h
  cases hd : isDown d.armed with
  | true =>
    rw [show d.sync n = (d, 12) from on_down hd]
    have HD := Lib.hid hd
    clear h hd
    go_enter Try.func20, Try.ntmps20
    go_wp2_with fail
    refine (find_down _ L d n H.out.at' HD.out).mono ?_
    rintro e w1 ⟨rfl, hb⟩
    have HB := Lib.hid hb
    clear hb
    go_wp2
    go_ret
    exact ⟨rfl, Fin'.same H.out.at' H.out.cr HB.out⟩
  | false =>
    cases hf : tfind d.now n with
    | none =>
      rw [show d.sync n = (d, 6) from on_none hd hf]
      have HD := Lib.hid hd
      have HF := Lib.hid hf
      have hln := h.now_len
      clear h hd hf
      go_enter Try.func20, Try.ntmps20
      go_wp2_with fail
      refine (find_none _ L d n H.out.at' HD.out H.out.ok.nowS (by omega) HF.out).mono ?_
      rintro e w1 ⟨rfl, hb⟩
      have HB := Lib.hid hb
      clear hb
      go_wp2
      go_ret
      exact ⟨rfl, Fin'.same H.out.at' H.out.cr HB.out⟩
    | some j =>
      have hj := h.file hf
      have hln := h.now_len
      have hfl := h.fil hj
      have HD := Lib.hid hd
      have HF := Lib.hid hf
      have HJ := Lib.hid hj
      clear h
      rw [show d.sync n = ((d.setF j ⟨(fat d.files j).b, (fat d.files j).b.length⟩).done, 0) from on_some hd hf]
      clear hd hf
      obtain ⟨N, hN⟩ : ∃ N, (fat d.files j).b.length = N := ⟨_, rfl⟩
      have HN := Lib.hid hN
      rw [hN] at hfl
      rw [hN]
      clear hN
      go_enter Try.func20, Try.ntmps20
      go_wp2_with fail
      refine (find_some _ L d n j H.out.at' HD.out H.out.ok.nowS (by omega) HF.out).mono ?_
      rintro e w1 ⟨rfl, hb⟩
      have HB := Lib.hid hb
      have HA1 := Lib.hid (H.out.at'.below hb (Nat.le_refl _))
      have HX1 := Lib.hid (HA1.out.rest.box j HJ.out)
      have HY1 := Lib.hid (HA1.out.rest.byt j HJ.out)
      clear hb
      obtain ⟨c0, c1, c2⟩ := fbox_facts HX1.out
      have f1 := HX1.out.free 1
      have f2 := HX1.out.free 2
      have hlen := fun W => len_X (P := Try.prog) (IsX.own HY1.out) 37 3 _ Try.underlying37 W
      rw [HN.out] at hlen
      have HK2 := Lib.hid ((Kept.refl (fun i => some (L.fb j) = some i ∨ (L.fv j).ownBlock = some i) w1).setCell (p := ⟨L.fb j, 2, none⟩) (.inl (.inl rfl)) (.int .i64 (N : Int)))
      have HY2 := Lib.hid (ownsRow_kept (S := fun i => some (L.fb j) = some i) HY1.out ((Kept.refl (fun i => some (L.fb j) = some i) w1).setCell (p := ⟨L.fb j, 2, none⟩) (.inl rfl) (.int .i64 (N : Int))) (fun i e e2 => by cases HA1.out.rest.apt (.byt j) (.box j) i ((own_byt HJ.out).trans e) ((own_box HJ.out).trans e2)))
      have HF2 := Lib.hid (fin_file (f := ⟨(fat d.files j).b, N⟩) HA1.out H.out.cr HJ.out (HX1.out.set 2 (.int .i64 (N : Int))) HY2.out HK2.out (fun i hi => .inl hi))
      go_wp2_with fail
      refine (Fin'.then_done HF2.out HD.out H.out.ok.arm).mono ?_
      rintro e w3 ⟨rfl, hF3⟩
      have HF3 := Lib.hid (Fin'.below HB.out hF3)
      clear hF3
      go_wp2
      go_ret
      exact ⟨rfl, HF3.out⟩

set_option maxRecDepth 100000 in
set_option maxHeartbeats 2000000 in
theorem cut_any (w : World) (L : Lay) (d : Dsk) (k : Nat) (n : ByteArray) (m : Int) (h : Ready w L d k) (hm1 : -9223372036854775808 ≤ m) (hm2 : m ≤ 9223372036854775807) :
    Calls Try.prog 32 #[.pointer (some ⟨L.p, 0, none⟩), .string n, .int .i64 m] w fun e w' => e = .returned (cerr (d.cut n m).2) ∧ Fin' w L d w' (d.cut n m).1 := by
  have H := Lib.hid h
  cases hd : isDown d.armed with
  | true =>
    rw [show d.cut n m = (d, 12) from on_down hd]
    have HD := Lib.hid hd
    clear h hd
    go_enter Try.func32, Try.ntmps32
    go_wp2_with fail
    refine (find_down _ L d n H.out.at' HD.out).mono ?_
    rintro e w1 ⟨rfl, hb⟩
    have HB := Lib.hid hb
    clear hb
    go_wp2
    go_ret
    exact ⟨rfl, Fin'.same H.out.at' H.out.cr HB.out⟩
  | false =>
    cases hf : tfind d.now n with
    | none =>
      rw [show d.cut n m = (d, 6) from on_none hd hf]
      have HD := Lib.hid hd
      have HF := Lib.hid hf
      have hln := h.now_len
      clear h hd hf
      go_enter Try.func32, Try.ntmps32
      go_wp2_with fail
      refine (find_none _ L d n H.out.at' HD.out H.out.ok.nowS (by omega) HF.out).mono ?_
      rintro e w1 ⟨rfl, hb⟩
      have HB := Lib.hid hb
      clear hb
      go_wp2
      go_ret
      exact ⟨rfl, Fin'.same H.out.at' H.out.cr HB.out⟩
    | some j =>
      have hj := h.file hf
      have hln := h.now_len
      have hfl := h.fil hj
      have HD := Lib.hid hd
      have HF := Lib.hid hf
      have HJ := Lib.hid hj
      clear h
      have hst : d.cut n m = if m < 0 ∨ (fat d.files j).b.length < m then (d, 1) else ((d.setF j ⟨(fat d.files j).b.take m.toNat, m.toNat⟩).done, 0) := on_some hd hf
      rw [hst]
      clear hd hf hst
      obtain ⟨N, hN⟩ : ∃ N, (fat d.files j).b.length = N := ⟨_, rfl⟩
      have HN := Lib.hid hN
      rw [hN] at hfl
      rw [hN]
      clear hN
      by_cases h1 : m < 0
      · rw [if_pos (.inl h1)]
        go_enter Try.func32, Try.ntmps32
        go_wp2_with fail
        refine (find_some _ L d n j H.out.at' HD.out H.out.ok.nowS (by omega) HF.out).mono ?_
        rintro e w1 ⟨rfl, hb⟩
        have HB := Lib.hid hb
        have HA1 := Lib.hid (H.out.at'.below hb (Nat.le_refl _))
        have HX1 := Lib.hid (HA1.out.rest.box j HJ.out)
        have HY1 := Lib.hid (HA1.out.rest.byt j HJ.out)
        clear hb
        obtain ⟨c0, c1, c2⟩ := fbox_facts HX1.out
        have f1 := HX1.out.free 1
        have f2 := HX1.out.free 2
        go_wp2
        go_ret
        exact ⟨rfl, Fin'.same H.out.at' H.out.cr HB.out⟩
      · by_cases h2 : (N : Int) < m
        · rw [if_pos (.inr h2)]
          go_enter Try.func32, Try.ntmps32
          go_wp2_with fail
          refine (find_some _ L d n j H.out.at' HD.out H.out.ok.nowS (by omega) HF.out).mono ?_
          rintro e w1 ⟨rfl, hb⟩
          have HB := Lib.hid hb
          have HA1 := Lib.hid (H.out.at'.below hb (Nat.le_refl _))
          have HX1 := Lib.hid (HA1.out.rest.box j HJ.out)
          have HY1 := Lib.hid (HA1.out.rest.byt j HJ.out)
          clear hb
          obtain ⟨c0, c1, c2⟩ := fbox_facts HX1.out
          have f1 := HX1.out.free 1
          have f2 := HX1.out.free 2
          have hlen := fun W => len_X (P := Try.prog) (IsX.own HY1.out) 37 3 _ Try.underlying37 W
          rw [HN.out] at hlen
          go_wp2
          go_ret
          exact ⟨rfl, Fin'.same H.out.at' H.out.cr HB.out⟩
        · rw [if_neg (by rintro (h | h) <;> omega)]
          obtain ⟨q, rfl⟩ := Int.eq_ofNat_of_zero_le (show 0 ≤ m by omega)
          rw [show ((q : Int)).toNat = q from rfl]
          have hqN : q ≤ N := by omega
          go_enter Try.func32, Try.ntmps32
          go_wp2_with fail
          refine (find_some _ L d n j H.out.at' HD.out H.out.ok.nowS (by omega) HF.out).mono ?_
          rintro e w1 ⟨rfl, hb⟩
          have HB := Lib.hid hb
          have HA1 := Lib.hid (H.out.at'.below hb (Nat.le_refl _))
          have HX1 := Lib.hid (HA1.out.rest.box j HJ.out)
          have HY1 := Lib.hid (HA1.out.rest.byt j HJ.out)
          clear hb
          obtain ⟨c0, c1, c2⟩ := fbox_facts HX1.out
          have f1 := HX1.out.free 1
          have f2 := HX1.out.free 2
          have hlen := fun W => len_X (P := Try.prog) (IsX.own HY1.out) 37 3 _ Try.underlying37 W
          rw [HN.out] at hlen
          obtain ⟨x, cap, hV, hc1, hc2⟩ := ownsRow_slice HY1.out
          rw [HN.out] at hV hc1
          have hsl := slice_h_X (P := Try.prog) 1 x N cap 37 _ Try.underlying37 Try.sizeU8b q (by omega)
          rw [← hV] at hsl
          have hY := HY1.out
          rw [HN.out, hV] at hY
          have hYt := ownsRow_take hY hqN
          rw [Nat.mul_one, bvs_take] at hYt
          have HV := Lib.hid (show ∀ i, (Value.slice x q cap).ownBlock = some i → (L.fv j).ownBlock = some i from by rw [hV]; intro i hi; cases x <;> exact hi)
          have hapt : ∀ i, (L.fv j).ownBlock = some i → ¬ some (L.fb j) = some i := fun i e e2 => by cases HA1.out.rest.apt (.byt j) (.box j) i ((own_byt HJ.out).trans e) ((own_box HJ.out).trans e2)
          have HK2 := Lib.hid (((Kept.refl (fun i => some (L.fb j) = some i ∨ (L.fv j).ownBlock = some i) w1).setCell (p := ⟨L.fb j, 1, none⟩) (.inl (.inl rfl)) (.slice x q cap)).setCell (p := ⟨L.fb j, 2, none⟩) (.inl (.inl rfl)) (.int .i64 (q : Int)))
          have HY2 := Lib.hid (ownsRow_kept (S := fun i => some (L.fb j) = some i) hYt (((Kept.refl (fun i => some (L.fb j) = some i) w1).setCell (p := ⟨L.fb j, 1, none⟩) (.inl rfl) (.slice x q cap)).setCell (p := ⟨L.fb j, 2, none⟩) (.inl rfl) (.int .i64 (q : Int))) (fun i e => hapt i (HV.out i e)))
          have HF2 := Lib.hid (fin_file (f := ⟨(fat d.files j).b.take q, q⟩) HA1.out H.out.cr HJ.out ((HX1.out.set 1 (.slice x q cap)).set 2 (.int .i64 (q : Int))) (by have := HY2.out; rw [show ((⟨(fat d.files j).b.take q, q⟩ : Fil)).b.length = q from by show (List.take q _).length = q; rw [List.length_take, HN.out]; omega]; exact this) HK2.out (fun i hi => .inl (HV.out i hi)))
          clear hV hY hYt hapt
          go_wp2_with fail
          refine (Fin'.then_done HF2.out HD.out H.out.ok.arm).mono ?_
          rintro e w3 ⟨rfl, hF3⟩
          have HF3 := Lib.hid (Fin'.below HB.out hF3)
          clear hF3
          go_wp2
          go_ret
          exact ⟨rfl, HF3.out⟩

set_option maxRecDepth 100000 in
set_option maxHeartbeats 2000000 in
theorem rename_any (w : World) (L : Lay) (d : Dsk) (k : Nat) (n : ByteArray) (t : ByteArray) (h : Ready w L d k) (hsz1 : n.size ≤ 281474976710656) (hsz2 : t.size ≤ 281474976710656) :
    Calls Try.prog 23 #[.pointer (some ⟨L.p, 0, none⟩), .string n, .string t] w fun e w' => e = .returned (cerr (d.rename n t).2) ∧ Fin' w L d w' (d.rename n t).1 := by
  have H := Lib.hid h
  cases hd : isDown d.armed with
  | true =>
    rw [show d.rename n t = (d, 12) from on_down hd]
    have HD := Lib.hid hd
    clear h hd
    go_enter Try.func23, Try.ntmps23
    go_wp2_with fail
    refine (find_down _ L d n H.out.at' HD.out).mono ?_
    rintro e w1 ⟨rfl, hb⟩
    have HB := Lib.hid hb
    clear hb
    go_wp2
    go_ret
    exact ⟨rfl, Fin'.same H.out.at' H.out.cr HB.out⟩
  | false =>
    cases hf : tfind d.now n with
    | none =>
      rw [show d.rename n t = (d, 6) from on_none hd hf]
      have HD := Lib.hid hd
      have HF := Lib.hid hf
      have hln := h.now_len
      clear h hd hf
      go_enter Try.func23, Try.ntmps23
      go_wp2_with fail
      refine (find_none _ L d n H.out.at' HD.out H.out.ok.nowS (by omega) HF.out).mono ?_
      rintro e w1 ⟨rfl, hb⟩
      have HB := Lib.hid hb
      clear hb
      go_wp2
      go_ret
      exact ⟨rfl, Fin'.same H.out.at' H.out.cr HB.out⟩
    | some j =>
      have hj := h.file hf
      have hln := h.now_len
      have hfl := h.fil hj
      have HD := Lib.hid hd
      have HF := Lib.hid hf
      have HJ := Lib.hid hj
      clear h
      have hst : d.rename n t = if isNm t = false then (d, 1) else (d.nameD ⟨n, t, j⟩, 0) := on_some hd hf
      rw [hst]
      clear hd hf hst
      cases hn : isNm t with
      | false =>
        rw [if_pos rfl]
        have HNM := Lib.hid hn
        clear hn
        go_enter Try.func23, Try.ntmps23
        go_wp2_with fail
        refine (find_some _ L d n j H.out.at' HD.out H.out.ok.nowS (by omega) HF.out).mono ?_
        rintro e w1 ⟨rfl, hb⟩
        have HB := Lib.hid hb
        have HA1 := Lib.hid (H.out.at'.below hb (Nat.le_refl _))
        have HX1 := Lib.hid (HA1.out.rest.box j HJ.out)
        have HY1 := Lib.hid (HA1.out.rest.byt j HJ.out)
        clear hb
        obtain ⟨c0, c1, c2⟩ := fbox_facts HX1.out
        have f1 := HX1.out.free 1
        have f2 := HX1.out.free 2
        go_wp2_with fail
        refine (isName_any t _ (by omega)).mono ?_
        rintro e w2 ⟨rfl, rfl⟩
        rw [HNM.out]
        go_wp2
        go_ret
        exact ⟨rfl, Fin'.same H.out.at' H.out.cr HB.out⟩
      | true =>
        rw [if_neg (by decide)]
        have HNM := Lib.hid hn
        clear hn
        go_enter Try.func23, Try.ntmps23
        go_wp2_with fail
        refine (find_some _ L d n j H.out.at' HD.out H.out.ok.nowS (by omega) HF.out).mono ?_
        rintro e w1 ⟨rfl, hb⟩
        have HB := Lib.hid hb
        have HA1 := Lib.hid (H.out.at'.below hb (Nat.le_refl _))
        have HX1 := Lib.hid (HA1.out.rest.box j HJ.out)
        have HY1 := Lib.hid (HA1.out.rest.byt j HJ.out)
        clear hb
        obtain ⟨c0, c1, c2⟩ := fbox_facts HX1.out
        have f1 := HX1.out.free 1
        have f2 := HX1.out.free 2
        go_wp2_with fail
        refine (isName_any t _ (by omega)).mono ?_
        rintro e w2 ⟨rfl, rfl⟩
        rw [HNM.out]
        go_wp2_with fail
        refine (name_any _ L d n t j _ HA1.out hsz1 hsz2 (by unfold dptr; rw [if_neg (isNm_ne HNM.out)]) HD.out H.out.ok.arm H.out.ok.nowS (by omega) (by have := H.out.dee_len; omega)).mono ?_
        rintro e w3 ⟨rfl, hM⟩
        have HF3 := Lib.hid (Fin'.below HB.out (Fin'.of_mid hM (show L.cr = d.files.length from H.out.cr)))
        clear hM
        go_wp2
        go_ret
        exact ⟨rfl, HF3.out⟩

set_option maxRecDepth 100000 in
set_option maxHeartbeats 2000000 in
theorem remove_any (w : World) (L : Lay) (d : Dsk) (k : Nat) (n : ByteArray) (h : Ready w L d k) (hsz1 : n.size ≤ 281474976710656) :
    Calls Try.prog 31 #[.pointer (some ⟨L.p, 0, none⟩), .string n] w fun e w' => e = .returned (cerr (d.remove n).2) ∧ Fin' w L d w' (d.remove n).1 := by
  have H := Lib.hid h
  cases hd : isDown d.armed with
  | true =>
    rw [show d.remove n = (d, 12) from on_down hd]
    have HD := Lib.hid hd
    clear h hd
    go_enter Try.func31, Try.ntmps31
    go_wp2_with fail
    refine (find_down _ L d n H.out.at' HD.out).mono ?_
    rintro e w1 ⟨rfl, hb⟩
    have HB := Lib.hid hb
    clear hb
    go_wp2
    go_ret
    exact ⟨rfl, Fin'.same H.out.at' H.out.cr HB.out⟩
  | false =>
    cases hf : tfind d.now n with
    | none =>
      rw [show d.remove n = (d, 6) from on_none hd hf]
      have HD := Lib.hid hd
      have HF := Lib.hid hf
      have hln := h.now_len
      clear h hd hf
      go_enter Try.func31, Try.ntmps31
      go_wp2_with fail
      refine (find_none _ L d n H.out.at' HD.out H.out.ok.nowS (by omega) HF.out).mono ?_
      rintro e w1 ⟨rfl, hb⟩
      have HB := Lib.hid hb
      clear hb
      go_wp2
      go_ret
      exact ⟨rfl, Fin'.same H.out.at' H.out.cr HB.out⟩
    | some j =>
      have hj := h.file hf
      have hln := h.now_len
      have hfl := h.fil hj
      have HD := Lib.hid hd
      have HF := Lib.hid hf
      have HJ := Lib.hid hj
      clear h
      rw [show d.remove n = (d.nameD ⟨n, noName, 0⟩, 0) from on_some hd hf]
      clear hd hf
      go_enter Try.func31, Try.ntmps31
      go_wp2_with fail
      refine (find_some _ L d n j H.out.at' HD.out H.out.ok.nowS (by omega) HF.out).mono ?_
      rintro e w1 ⟨rfl, hb⟩
      have HB := Lib.hid hb
      have HA1 := Lib.hid (H.out.at'.below hb (Nat.le_refl _))
      have HX1 := Lib.hid (HA1.out.rest.box j HJ.out)
      have HY1 := Lib.hid (HA1.out.rest.byt j HJ.out)
      clear hb
      obtain ⟨c0, c1, c2⟩ := fbox_facts HX1.out
      have f1 := HX1.out.free 1
      have f2 := HX1.out.free 2
      go_wp2_with fail
      refine (name_any _ L d n noName 0 _ HA1.out hsz1 (by decide) (by unfold dptr; rw [if_pos rfl]) HD.out H.out.ok.arm H.out.ok.nowS (by omega) (by have := H.out.dee_len; omega)).mono ?_
      rintro e w3 ⟨rfl, hM⟩
      have HF3 := Lib.hid (Fin'.below HB.out (Fin'.of_mid hM (show L.cr = d.files.length from H.out.cr)))
      clear hM
      go_wp2
      go_ret
      exact ⟨rfl, HF3.out⟩

end Go.Proofs.Ytnofabeajcdddaa
