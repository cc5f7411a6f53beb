/- Package disk: Spoil, Read, Append: by contracts. -/
import Derived.Test.YtnofabeajcdddaaOps
import Derived.Lib.SliceRun
namespace Go.Proofs.Ytnofabeajcdddaa
open Go.RowKit Go.Cor

set_option maxHeartbeats 400000 in
theorem bclone_any (v : Value) (l : List UInt8) (w : World) (hv : IsB w v l) (hl : l.length ≤ 1099511627776) :
    Calls Try.prog 39 #[v] w fun e w' =>
      ∃ v', e = .returned v' ∧ w'.ownsRow w.heap.size 5 1 v' l.length (bvs l) ∧ Below w.heap.size w w' := by
  obtain ⟨i0, hi, hz0, hz1, hz2⟩ := info_parts Try.infoU8
  have q22 : ∀ (w : World) (a : Option Addr) (n c n' c' : Nat), (binOp .eql 37 (.slice a n c) (.slice none n' c')).run Try.prog w = .ok (.bool a.isNone) w := fun w a n c n' c' => Lib.run_eql_slice_nil w _ _ a n c n' c' Try.underlying37
  have HV := Lib.hid hv
  obtain ⟨x, cap, rfl, hlc, hcm, hnc, hcell⟩ := hv
  clear hcell
  cases x with
  | none =>
    obtain rfl := hnc rfl
    obtain rfl : l = [] := List.eq_nil_of_length_eq_zero (by omega)
    go_enter Try.func39, Try.ntmps39
    go_wp2
    go_ret
    exact ⟨_, rfl, ⟨rfl, .inl ⟨rfl, rfl⟩⟩, Below.refl _ _⟩
  | some a =>
    clear hnc
    go_enter Try.func39, Try.ntmps39
    go_wp2_with (at_builtin; refine wpList_append_B (by rfl) _ _ 37 rfl w.heap.size 5 i0 Try.underlying37 hi hz0 hz1 hz2 _ [] 0 rfl (World.ownsRow_lit _ #[] 0 (Nat.le_refl _) (Nat.zero_le _) rfl) rfl _ l rfl (HV.out.mono ((Below.refl _ _).alloc (Nat.le_refl _) _) (Nat.le_refl _)) (by simp; omega) (by simp) ?_; intro v4 w4 hown4 hb4)
    go_ret
    exact ⟨_, rfl, by simpa using hown4, ((Below.refl _ _).alloc (Nat.le_refl _) _).trans hb4⟩

theorem slice_lh_V {P : Program} {w : World} {v : Value} {l : List UInt8} (hv : IsB w v l) (T U : TypeId) (ht : P.underlying T = some (.slice U)) (hs : (P.info? U).map (·.size) = some 1) (lo hi : Nat) (h1 : lo ≤ hi) (h2 : hi ≤ l.length) :
    ∃ sv, (∀ W, (Instr.slice T v (some (.int .i64 (lo : Int))) (some (.int .i64 (hi : Int))) none).run P W = .ok sv W) ∧ IsB w sv ((l.drop lo).take (hi - lo)) := by
  obtain ⟨i, hi1, hi2⟩ := Option.map_eq_some_iff.1 hs
  obtain ⟨a, cap, rfl, k1, k2, k0, k3⟩ := hv
  have ht' : P.underlying T = some (.slice (P.elem T)) := by simp [Program.elem, ht]
  have he : P.elem T = U := by simp [Program.elem, ht]
  have hsz : ∀ W, (sizeOf U).run P W = .ok 1 W := fun W => by simp [sizeOf, typeInfo, hi1, hi2]
  refine ⟨sliced a lo hi cap 1, fun W => ?_, ?_⟩
  · rw [run_slice_lh W T _ _ _ ht' .i64 .i64 _ _ (by omega) (by omega) (by omega), he, hsz]
    simp [Result.andThen]
  · have hlen : ((l.drop lo).take (hi - lo)).length = hi - lo := by simp; omega
    unfold sliced
    refine ⟨_, _, by rw [hlen], by rw [hlen]; omega, by omega, fun hx => ?_, ?_⟩
    · split at hx
      · omega
      · have : a = none := by simpa using hx
        rw [k0 this]
        omega
    · rw [hlen]
      by_cases h0 : hi - lo = 0
      · exact .inl h0
      · rcases k3 with k3 | ⟨b, off, rfl, hc⟩
        · omega
        · rw [if_neg (by omega)]
          refine .inr ⟨b, off + lo, by simp [add_lit], fun i hi => ?_⟩
          rw [show off + lo + i = off + (lo + i) from by omega, hc (lo + i) (by omega)]
          congr 2
          simp only [List.getD_eq_getElem?_getD, List.getElem?_take, if_pos hi, List.getElem?_drop]
theorem bvs_set (l : List UInt8) (i : Nat) (x : UInt8) : (bvs l).set i (bv x) = bvs (l.set i x) := by simp [bvs]

set_option maxRecDepth 100000 in
set_option maxHeartbeats 2000000 in
theorem spoil_any (w : World) (L : Lay) (d : Dsk) (k : Nat) (n : ByteArray) (m : Int) (x : UInt8) (h : Ready w L d k) (hm1 : -9223372036854775808 ≤ m) (hm2 : m ≤ 9223372036854775807) :
    Calls Try.prog 33 #[.pointer (some ⟨L.p, 0, none⟩), .string n, .int .i64 m, .int .u8 (x.toNat : Int)] w fun e w' => e = .returned (cerr (d.spoil n m x).2) ∧ Fin' w L d w' (d.spoil n m x).1 := by
  have H := Lib.hid h
  cases hd : isDown d.armed with
  | true =>
    rw [show d.spoil n m x = (d, 12) from on_down hd]
    have HD := Lib.hid hd
    clear h hd
    go_enter Try.func33, Try.ntmps33
    go_wp2_with fail
    refine (find_down _ L d n H.out.at' HD.out).mono ?_
    rintro e w1 ⟨rfl, hb⟩
    have HB := Lib.hid hb
    clear hb
    go_wp2
    go_ret
    exact ⟨rfl, Fin'.same H.out.at' H.out.cr HB.out⟩
  | false =>
    cases hf : tfind d.now n with
    | none =>
      rw [show d.spoil n m x = (d, 6) from on_none hd hf]
      have HD := Lib.hid hd
      have HF := Lib.hid hf
      have hln := h.now_len
      clear h hd hf
      go_enter Try.func33, Try.ntmps33
      go_wp2_with fail
      refine (find_none _ L d n H.out.at' HD.out H.out.ok.nowS (by omega) HF.out).mono ?_
      rintro e w1 ⟨rfl, hb⟩
      have HB := Lib.hid hb
      clear hb
      go_wp2
      go_ret
      exact ⟨rfl, Fin'.same H.out.at' H.out.cr HB.out⟩
    | some j =>
      have hj := h.file hf
      have hln := h.now_len
      have hfl := h.fil hj
      have HD := Lib.hid hd
      have HF := Lib.hid hf
      have HJ := Lib.hid hj
      clear h
      have hst : d.spoil n m x = if m < 0 ∨ (fat d.files j).b.length ≤ m then (d, 1) else (d.setF j ⟨(fat d.files j).b.set m.toNat ((fat d.files j).b.getD m.toNat 0 ^^^ x), (fat d.files j).lasts⟩, 0) := on_some hd hf
      rw [hst]
      clear hd hf hst
      obtain ⟨N, hN⟩ : ∃ N, (fat d.files j).b.length = N := ⟨_, rfl⟩
      have HN := Lib.hid hN
      rw [hN] at hfl
      rw [hN]
      clear hN
      by_cases h1 : m < 0
      · rw [if_pos (.inl h1)]
        go_enter Try.func33, Try.ntmps33
        go_wp2_with fail
        refine (find_some _ L d n j H.out.at' HD.out H.out.ok.nowS (by omega) HF.out).mono ?_
        rintro e w1 ⟨rfl, hb⟩
        have HB := Lib.hid hb
        have HA1 := Lib.hid (H.out.at'.below hb (Nat.le_refl _))
        have HX1 := Lib.hid (HA1.out.rest.box j HJ.out)
        have HY1 := Lib.hid (HA1.out.rest.byt j HJ.out)
        clear hb
        obtain ⟨c0, c1, c2⟩ := fbox_facts HX1.out
        have f1 := HX1.out.free 1
        have f2 := HX1.out.free 2
        go_wp2
        go_ret
        exact ⟨rfl, Fin'.same H.out.at' H.out.cr HB.out⟩
      · by_cases h2 : (N : Int) ≤ m
        · rw [if_pos (.inr h2)]
          go_enter Try.func33, Try.ntmps33
          go_wp2_with fail
          refine (find_some _ L d n j H.out.at' HD.out H.out.ok.nowS (by omega) HF.out).mono ?_
          rintro e w1 ⟨rfl, hb⟩
          have HB := Lib.hid hb
          have HA1 := Lib.hid (H.out.at'.below hb (Nat.le_refl _))
          have HX1 := Lib.hid (HA1.out.rest.box j HJ.out)
          have HY1 := Lib.hid (HA1.out.rest.byt j HJ.out)
          clear hb
          obtain ⟨c0, c1, c2⟩ := fbox_facts HX1.out
          have f1 := HX1.out.free 1
          have f2 := HX1.out.free 2
          have hlen := fun W => len_X (P := Try.prog) (IsX.own HY1.out) 37 3 _ Try.underlying37 W
          rw [HN.out] at hlen
          go_wp2
          go_ret
          exact ⟨rfl, Fin'.same H.out.at' H.out.cr HB.out⟩
        · rw [if_neg (by rintro (h | h) <;> omega)]
          obtain ⟨q, rfl⟩ := Int.eq_ofNat_of_zero_le (show 0 ≤ m by omega)
          rw [show ((q : Int)).toNat = q from rfl]
          have hqN : q < N := by omega
          obtain ⟨y, hy⟩ : ∃ y, (fat d.files j).b.getD q 0 = y := ⟨_, rfl⟩
          rw [hy]
          have HYY := Lib.hid hy
          clear hy
          go_enter Try.func33, Try.ntmps33
          go_wp2_with fail
          refine (find_some _ L d n j H.out.at' HD.out H.out.ok.nowS (by omega) HF.out).mono ?_
          rintro e w1 ⟨rfl, hb⟩
          have HB := Lib.hid hb
          have HA1 := Lib.hid (H.out.at'.below hb (Nat.le_refl _))
          have HX1 := Lib.hid (HA1.out.rest.box j HJ.out)
          have HY1 := Lib.hid (HA1.out.rest.byt j HJ.out)
          clear hb
          obtain ⟨c0, c1, c2⟩ := fbox_facts HX1.out
          have f1 := HX1.out.free 1
          have f2 := HX1.out.free 2
          have hlen := fun W => len_X (P := Try.prog) (IsX.own HY1.out) 37 3 _ Try.underlying37 W
          rw [HN.out] at hlen
          have hY := HY1.out
          rw [HN.out] at hY
          obtain ⟨g, hgo, hidx, hcells, hfree, hst⟩ := indexAt_own hY 37 _ Try.underlying37 Try.sizeU8b q hqN
          rw [Nat.mul_one] at hidx hcells
          have k0 := hcells 0 (by decide)
          rw [Nat.add_zero, bvs_get (by rw [HN.out]; exact hqN), HYY.out] at k0
          have g0 := hfree q
          have hxor : bits .xor .u8 (y.toNat : Int) (x.toNat : Int) = (((y ^^^ x : UInt8)).toNat : Int) := by rw [u8_xor_nat _ _ y.toNat_lt x.toNat_lt, UInt8.toNat_xor]
          have HG := Lib.hid hgo
          have HY2 := Lib.hid (hst q (bv (y ^^^ x)))
          have HK2 := Lib.hid ((Kept.refl (fun i => some (L.fb j) = some i ∨ (L.fv j).ownBlock = some i) w1).setCell (p := ⟨g, q, none⟩) (.inl (.inr hgo)) (bv (y ^^^ x)))
          have HX2 := Lib.hid (HX1.out.other (a := ⟨g, q, none⟩) (fun e => by cases HA1.out.rest.apt (.byt j) (.box j) g ((own_byt HJ.out).trans hgo) ((own_box HJ.out).trans (by rw [← e]))) (bv (y ^^^ x)))
          have HF2 := Lib.hid (Fin'.below HB.out (fin_file (f := ⟨(fat d.files j).b.set q (y ^^^ x), (fat d.files j).lasts⟩) HA1.out H.out.cr HJ.out HX2.out (by have := HY2.out; rw [bvs_set] at this; rw [show ((⟨(fat d.files j).b.set q (y ^^^ x), (fat d.files j).lasts⟩ : Fil)).b.length = N from by show (List.set _ _ _).length = N; rw [List.length_set, HN.out]]; exact this) HK2.out (fun i hi => .inl hi)))
          clear hcells hfree hst hgo hY
          go_wp2
          go_ret
          exact ⟨rfl, HF2.out⟩

set_option maxRecDepth 100000 in
set_option maxHeartbeats 2000000 in
theorem read_any (w : World) (L : Lay) (d : Dsk) (k : Nat) (n : ByteArray) (m z : Int) (h : Ready w L d k) (hm1 : -9223372036854775808 ≤ m) (hm2 : m ≤ 9223372036854775807) (hz1 : -9223372036854775808 ≤ z) (hz2 : z ≤ 9223372036854775807) :
    Calls Try.prog 17 #[.pointer (some ⟨L.p, 0, none⟩), .string n, .int .i64 m, .int .i64 z] w fun e w' => ∃ v', e = .returned (.tuple #[v', cerr (d.read n m z).2]) ∧ w'.ownsRow w.heap.size 5 1 v' (d.read n m z).1.length (bvs (d.read n m z).1) ∧ Below w.heap.size w w' := by
  have H := Lib.hid h
  cases hd : isDown d.armed with
  | true =>
    rw [show d.read n m z = (([] : List UInt8), 12) from on_down hd]
    have HD := Lib.hid hd
    clear h hd
    go_enter Try.func17, Try.ntmps17
    go_wp2_with fail
    refine (find_down _ L d n H.out.at' HD.out).mono ?_
    rintro e w1 ⟨rfl, hb⟩
    have HB := Lib.hid hb
    clear hb
    go_wp2
    go_ret2
    exact ⟨_, rfl, World.ownsRow_nil _ _ _ _, HB.out⟩
  | false =>
    cases hf : tfind d.now n with
    | none =>
      rw [show d.read n m z = (([] : List UInt8), 6) from on_none hd hf]
      have HD := Lib.hid hd
      have HF := Lib.hid hf
      have hln := h.now_len
      clear h hd hf
      go_enter Try.func17, Try.ntmps17
      go_wp2_with fail
      refine (find_none _ L d n H.out.at' HD.out H.out.ok.nowS (by omega) HF.out).mono ?_
      rintro e w1 ⟨rfl, hb⟩
      have HB := Lib.hid hb
      clear hb
      go_wp2
      go_ret2
      exact ⟨_, rfl, World.ownsRow_nil _ _ _ _, HB.out⟩
    | some j =>
      have hj := h.file hf
      have hln := h.now_len
      have hfl := h.fil hj
      have HD := Lib.hid hd
      have HF := Lib.hid hf
      have HJ := Lib.hid hj
      clear h
      have hst : d.read n m z = if m < 0 ∨ z < 0 then ([], 1) else if (fat d.files j).b.length < m + z then ([], 3) else (((fat d.files j).b.drop m.toNat).take z.toNat, 0) := on_some hd hf
      rw [hst]
      clear hd hf hst
      obtain ⟨N, hN⟩ : ∃ N, (fat d.files j).b.length = N := ⟨_, rfl⟩
      have HN := Lib.hid hN
      rw [hN] at hfl
      rw [hN]
      clear hN
      by_cases h1 : m < 0
      · rw [if_pos (.inl h1)]
        go_enter Try.func17, Try.ntmps17
        go_wp2_with fail
        refine (find_some _ L d n j H.out.at' HD.out H.out.ok.nowS (by omega) HF.out).mono ?_
        rintro e w1 ⟨rfl, hb⟩
        have HB := Lib.hid hb
        have HA1 := Lib.hid (H.out.at'.below hb (Nat.le_refl _))
        have HX1 := Lib.hid (HA1.out.rest.box j HJ.out)
        have HY1 := Lib.hid (HA1.out.rest.byt j HJ.out)
        clear hb
        obtain ⟨c0, c1, c2⟩ := fbox_facts HX1.out
        have f1 := HX1.out.free 1
        have f2 := HX1.out.free 2
        go_wp2
        go_ret2
        exact ⟨_, rfl, World.ownsRow_nil _ _ _ _, HB.out⟩
      · by_cases h2 : z < 0
        · rw [if_pos (.inr h2)]
          go_enter Try.func17, Try.ntmps17
          go_wp2_with fail
          refine (find_some _ L d n j H.out.at' HD.out H.out.ok.nowS (by omega) HF.out).mono ?_
          rintro e w1 ⟨rfl, hb⟩
          have HB := Lib.hid hb
          have HA1 := Lib.hid (H.out.at'.below hb (Nat.le_refl _))
          have HX1 := Lib.hid (HA1.out.rest.box j HJ.out)
          have HY1 := Lib.hid (HA1.out.rest.byt j HJ.out)
          clear hb
          obtain ⟨c0, c1, c2⟩ := fbox_facts HX1.out
          have f1 := HX1.out.free 1
          have f2 := HX1.out.free 2
          go_wp2
          go_ret2
          exact ⟨_, rfl, World.ownsRow_nil _ _ _ _, HB.out⟩
        · rw [if_neg (by rintro (h | h) <;> omega)]
          by_cases h3 : (N : Int) < m + z
          · rw [if_pos h3]
            have h3' : (N : Int) - z < m := by omega
            go_enter Try.func17, Try.ntmps17
            go_wp2_with fail
            refine (find_some _ L d n j H.out.at' HD.out H.out.ok.nowS (by omega) HF.out).mono ?_
            rintro e w1 ⟨rfl, hb⟩
            have HB := Lib.hid hb
            have HA1 := Lib.hid (H.out.at'.below hb (Nat.le_refl _))
            have HX1 := Lib.hid (HA1.out.rest.box j HJ.out)
            have HY1 := Lib.hid (HA1.out.rest.byt j HJ.out)
            clear hb
            obtain ⟨c0, c1, c2⟩ := fbox_facts HX1.out
            have f1 := HX1.out.free 1
            have f2 := HX1.out.free 2
            have hlen := fun W => len_X (P := Try.prog) (IsX.own HY1.out) 37 3 _ Try.underlying37 W
            rw [HN.out] at hlen
            go_wp2
            go_ret2
            exact ⟨_, rfl, World.ownsRow_nil _ _ _ _, HB.out⟩
          · rw [if_neg h3]
            obtain ⟨q, rfl⟩ := Int.eq_ofNat_of_zero_le (show 0 ≤ m by omega)
            obtain ⟨r, rfl⟩ := Int.eq_ofNat_of_zero_le (show 0 ≤ z by omega)
            rw [show ((q : Int)).toNat = q from rfl, show ((r : Int)).toNat = r from rfl]
            have h3' : ¬ ((N : Int) - (r : Int) < (q : Int)) := by omega
            go_enter Try.func17, Try.ntmps17
            go_wp2_with fail
            refine (find_some _ L d n j H.out.at' HD.out H.out.ok.nowS (by omega) HF.out).mono ?_
            rintro e w1 ⟨rfl, hb⟩
            have HB := Lib.hid hb
            have HA1 := Lib.hid (H.out.at'.below hb (Nat.le_refl _))
            have HX1 := Lib.hid (HA1.out.rest.box j HJ.out)
            have HY1 := Lib.hid (HA1.out.rest.byt j HJ.out)
            clear hb
            obtain ⟨c0, c1, c2⟩ := fbox_facts HX1.out
            have f1 := HX1.out.free 1
            have f2 := HX1.out.free 2
            have hlen := fun W => len_X (P := Try.prog) (IsX.own HY1.out) 37 3 _ Try.underlying37 W
            rw [HN.out] at hlen
            have hI := IsB.own HY1.out rfl
            obtain ⟨sv, hsl, hsv⟩ := slice_lh_V (P := Try.prog) hI 37 _ Try.underlying37 Try.sizeU8b q (q + r) (by omega) (by rw [HN.out]; omega)
            rw [Nat.add_sub_cancel_left] at hsv
            rw [show ((q + r : Nat) : Int) = (q : Int) + (r : Int) from by omega] at hsl
            have HSV := Lib.hid hsv
            clear hsv hI
            go_wp2_with fail
            refine (bclone_any sv _ _ HSV.out (by rw [List.length_take, List.length_drop, HN.out]; omega)).mono ?_
            rintro e w2 ⟨v', rfl, hown, hb2⟩
            have HO2 := Lib.hid hown
            have HB2 := Lib.hid (HB.out.trans (hb2.mono HB.out.size))
            have hs1 := HB.out.size
            clear hown hb2
            go_wp2
            go_ret2
            exact ⟨_, rfl, ownsRow_base HO2.out hs1, HB2.out⟩

end Go.Proofs.Ytnofabeajcdddaa
