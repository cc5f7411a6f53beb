/- Package corncriblaw19: DirsParts. -/
import Derived.Test.YtibmajicknnbhaaDe
import Derived.Test.YtibmajicknnbhaaDs
import Derived.Test.YtibmajicknnbhaaRef01
namespace Go.Proofs.Ytibmajicknnbhaa
open Go.RowKit Go.Cor
set_option linter.unusedVariables false
set_option linter.unusedSimpArgs false

theorem Try.infoCmd19 : (Try.prog.info? 32).map (fun i => (i.zero, i.size, i.bytes)) = some (some (.agg #[.int .i64 0, .int .i64 0, .int .i64 0, .int .i64 0, .int .i64 0, .int .i64 0, .int .i64 0, .int .i64 0]), 8, 64) := by kernel_rfl
theorem Try.sizeCm19 : (Try.prog.info? 32).map (·.size) = some 8 := by kernel_rfl
theorem rep_ok (l : List Cm) (K : Nat) (h : l.length + 1 ≤ K) : LOk (repL [] l) K := (repL_ok (LOk.nil 1) (Nat.le_refl 1) l).more (by omega)
set_option maxRecDepth 100000 in
set_option maxHeartbeats 4000000 in
theorem dirsParts_all (v : Value) (l : List Cm) (q : Nat) (w : World) (hv : IsX w 8 v l.length (row ccl l)) (hq : q < 256) :
    Calls Try.prog 5 #[v, .int .u8 (q : Int)] w fun e w' => e = .returned (.bool true) ∧ Below w.heap.size w w' := by
  obtain ⟨N, hN⟩ : ∃ N, l.length = N := ⟨_, rfl⟩
  rw [hN] at hv
  have hlen := fun W => len_X (P := Try.prog) hv 22 3 33 Try.underlying22 W
  have HV := Lib.hid hv
  have HN := Lib.hid hN
  clear hv hN
  by_cases hbig : 100 < N
  · have hbig' : (100 : Int) < (N : Int) := by omega
    go_enter Try.func5, Try.ntmps5
    go_wp2_with (go_at_call 6; refine (alive19 _).mono ?_; rintro e w1 ⟨rfl, hb1⟩)
    go_ret
    exact ⟨rfl, hb1⟩
  have hbig' : ¬ (100 : Int) < (N : Int) := by omega
  have hN9 : N ≤ 100 := by omega
  have HNX := Lib.hid hN9
  clear hbig
  obtain ⟨i0, hi, hz0, hz1, hz2⟩ := info_parts Try.infoCmd19
  have HI0 := Lib.hid hi
  have HZ0 := Lib.hid hz0
  have HZ1 := Lib.hid hz1
  have HZ2 := Lib.hid hz2
  have HQ := Lib.hid hq
  clear hi hz0 hz1 hz2 hq
  go_enter Try.func5, Try.ntmps5
  go_wp2_with fail
  refine (alive19 _).mono ?_
  rintro e w1 ⟨rfl, hb1⟩
  have HB1 := Lib.hid hb1
  clear hb1
  go_wp2_with fail
  go_loopw [5, 6] (fun cv iv wr => ∃ (i : Nat) (x : Option Addr) (c : Nat), i ≤ N ∧ cv = .slice x i c ∧ iv = .int .i64 i ∧ Hid (wr.ownsRow w.heap.size 32 8 (.slice x i c) i (row ccl (l.take i))) ∧ Hid (Below w.heap.size w wr)) (fun _ iv _ => N - (intOf iv).toNat)
  case atStart => exact ⟨0, none, 0, Nat.zero_le _, rfl, rfl, Lib.hid ⟨rfl, .inl ⟨rfl, rfl⟩⟩, HB1⟩
  case round =>
    obtain ⟨i, x, c, hiN, rfl, rfl, HO, HB⟩ := hrel
    by_cases hlt : i < N
    · have hlt' : (i : Int) < (N : Int) := by omega
      have HI := Lib.hid hlt
      obtain ⟨⟨ck, cv, ce, ca, cn, c1, c2, c3⟩, hy⟩ := (⟨_, List.getElem?_eq_getElem (l := l) (i := i) (by rw [HN.out]; exact hlt)⟩ : ∃ d, l[i]? = some d)
      obtain ⟨b, o, hidx, _, hcell⟩ := indexAt_X (P := Try.prog) (HV.out.mono HB.out (Nat.le_refl _)) 22 33 Try.underlying22 Try.sizeCmd19 i hlt
      have hce := fun q (hq : q < 8) => (hcell q hq).trans (row_get ccl_len hy q hq)
      have d0 : wr.cell? ⟨b, o, none⟩ = some (.int .i64 ck) := hce 0 (by decide)
      have d1 : wr.cell? ⟨b, o + 1, none⟩ = some (.int .i64 cv) := hce 1 (by decide)
      have d2 : wr.cell? ⟨b, o + 2, none⟩ = some (.int .i64 ce) := hce 2 (by decide)
      have d3 : wr.cell? ⟨b, o + 3, none⟩ = some (.int .i64 ca) := hce 3 (by decide)
      have d4 : wr.cell? ⟨b, o + 4, none⟩ = some (.int .i64 cn) := hce 4 (by decide)
      have d5 : wr.cell? ⟨b, o + 5, none⟩ = some (.int .i64 c1) := hce 5 (by decide)
      have d6 : wr.cell? ⟨b, o + 6, none⟩ = some (.int .i64 c2) := hce 6 (by decide)
      have d7 : wr.cell? ⟨b, o + 7, none⟩ = some (.int .i64 c3) := hce 7 (by decide)
      have HTK := Lib.hid (show l.take (i + 1) = l.take i ++ [⟨ck, cv, ce, ca, cn, c1, c2, c3⟩] from by
        rw [List.take_add_one, hy]; rfl)
      clear hce hcell hy hlt
      go_wp2_with (at_builtin; refine wpList_append_X (by rfl) _ _ 46 46 rfl (fun _ _ _ => rfl) w.heap.size 32 i0 _ 8 64 Try.underlying46 HI0.out HZ0.out HZ1.out HZ2.out rfl (by decide) _ (row ccl (l.take i)) i rfl (HO.out.alloc _) _ 1 [.int .i64 ck, .int .i64 cv, .int .i64 ce, .int .i64 ca, .int .i64 cn, .int .i64 c1, .int .i64 c2, .int .i64 c3] rfl (IsX.own (World.ownsRow_lit _ #[.int .i64 ck, .int .i64 cv, .int .i64 ce, .int .i64 ca, .int .i64 cn, .int .i64 c1, .int .i64 c2, .int .i64 c3] 1 (Nat.le_refl _) (by unfold maxLen; omega) rfl)) (by simp [Value.oneCell']) ?c1 ?c2 ?c3 ?_)
      case c1 => unfold maxLen; omega
      case c2 => omega
      case c3 => have := HB.out.size; simp; omega
      intro v4 w4 hown4 hgr4 hl4
      obtain ⟨x4, cap4, rfl, _, _⟩ := ownsRow_slice hown4
      have HO4 := Lib.hid (show w4.ownsRow w.heap.size 32 8 (.slice x4 (i + 1) cap4) (i + 1) (row ccl (l.take (i + 1))) from by rw [HTK.out, row_append, row_one]; exact hown4)
      have HB4 := Lib.hid ((HB.out.alloc HB.out.size (.cells #[.int .i64 ck, .int .i64 cv, .int .i64 ce, .int .i64 ca, .int .i64 cn, .int .i64 c1, .int .i64 c2, .int .i64 c3] 32)).grown hgr4 (by have := HB.out.size; simp; omega) (fun k e => (HO.out.lt k e).1))
      clear hown4 hgr4 hl4
      go_wp2
      go_roundw
      case rel => exact ⟨i + 1, x4, cap4, by have := HI.out; omega, by go_num, by go_num, HO4, HB4⟩
      case measure => simp [intOf] <;> (have := HI.out; omega)
    · obtain rfl : i = N := by omega
      obtain ⟨NN, hNN⟩ : ∃ z, i = z := ⟨_, rfl⟩
      clear hlt
      have hall : l.take i = l := by rw [List.take_of_length_le (by rw [HN.out]; exact Nat.le_refl _)]
      have ho := HO.out
      rw [hall] at ho
      have HO1 := Lib.hid ho
      have HALL := Lib.hid hall
      have hlc := fun W => len_X (P := Try.prog) (IsX.own ho) 46 3 32 Try.underlying46 W
      obtain ⟨k, hk⟩ : ∃ k, q % (i + 1) = k := ⟨_, rfl⟩
      have HKE := Lib.hid (show (q : Int) % ((i : Int) + 1) = (k : Int) from by rw [← hk]; simp)
      have HKN := Lib.hid (show k ≤ i from by rw [← hk]; have := Nat.mod_lt q (show 0 < i + 1 from by omega); omega)
      have hq9 : q < 256 := HQ.out
      clear ho hall hk hNN
      go_wp2_with fail
      rw [HKE.out]
      have hl0 : l.length = i := HN.out
      refine (dreplay wr (.slice x i c) l (by rw [hl0]; exact IsX.own HO1.out) (by rw [hl0]; omega)).mono ?_
      rintro e W1 ⟨g1, S1, rfl, hm, hb⟩
      have H1 := Lib.hid (Dh.of HB.out hm hb (rep_ok l 1000 (by rw [hl0]; omega)))
      have HC1 := Lib.hid ((IsX.own HO1.out).mono hb (Nat.le_refl _))
      have HLT1 := Lib.hid (show ∀ z, S1 z → wr.heap.size ≤ z ∧ z < W1.heap.size from fun z hz => hm.lt hz)
      obtain ⟨R, hR⟩ : ∃ R, repN [] l = R := ⟨_, rfl⟩
      have hRb : R ≤ 100 := by have := repN_le [] l; omega
      rw [hR]
      have HR := Lib.hid hR
      have HL0 := Lib.hid hl0
      clear hm hb hR hl0 hlc
      have hsl := slice_h_X (P := Try.prog) 8 x i c 46 32 Try.underlying46 Try.sizeCm19 k (by have := (ownsRow_slice HO1.out); obtain ⟨x9, c9, e9, h9, _⟩ := this; cases e9; have := HKN.out; omega)
      go_wp2_with fail
      refine (dreplay W1 (.slice x k c) (l.take k) (by
        rw [show (l.take k).length = k by rw [List.length_take, HL0.out]; have := HKN.out; omega, ← row_take ccl_len]
        exact HC1.out.take HKN.out) (by rw [List.length_take, HL0.out]; have := HKN.out; omega)).mono ?_
      rintro e W2 ⟨g2, S2, rfl, hm, hb⟩
      have H2 := Lib.hid (Dh.of H1.out.bel hm hb (rep_ok (l.take k) 1000 (by rw [List.length_take, HL0.out]; omega)))
      have H12 := Lib.hid (H1.out.below hb)
      have HC2 := Lib.hid (HC1.out.mono hb (Nat.le_refl _))
      have HDJ := Lib.hid (show ∀ z, S2 z → ¬ S1 z from fun z h2 h1 => by have a1 := hm.lt h2; have a2 := HLT1.out z h1; omega)
      have HCJ := Lib.hid (show ∀ z, liesX (.slice x i c) i z → ¬ S2 z from fun z h1 h2 => by have a1 := hm.lt h2; have a2 := HC1.out.lies_lt (by decide) h1; omega)
      obtain ⟨R2, hR2⟩ : ∃ z, repN [] (l.take k) = z := ⟨_, rfl⟩
      have hRb2 : R2 ≤ 100 := by have := repN_le [] (l.take k); rw [List.length_take] at this; have := HKN.out; omega
      rw [hR2]
      have HR2 := Lib.hid hR2.symm
      clear hm hb hR2 hsl
      have hlc := fun W => len_X (P := Try.prog) HC2.out 46 3 32 Try.underlying46 W
      go_wp2_with fail
      go_loopw [11, 12] (fun pv jv wx => ∃ (j pn : Nat) (S2 : Nat → Prop), j ≤ i ∧ jv = .int .i64 j ∧ pv = .int .i64 pn ∧ Hid (pn = repN [] (l.take j)) ∧ Hid (Dh w wx g2 S2 (repL [] (l.take j)) 1000) ∧ Hid (Dh w wx g1 S1 (repL [] l) 1000) ∧ Hid (∀ z, S2 z → ¬ S1 z) ∧ Hid (IsX wx 8 (.slice x i c) i (row ccl l)) ∧ Hid (∀ z, liesX (.slice x i c) i z → ¬ S2 z)) (fun _ jv _ => i - (intOf jv).toNat)
      case atStart => exact ⟨k, R2, S2, HKN.out, rfl, rfl, HR2, H2, H12, HDJ, HC2, HCJ⟩
      case round =>
        obtain ⟨j, pn, S3, hji, rfl, rfl, HPN, HB3, HA3, HDJ3, HC3, HCJ3⟩ := hrel
        by_cases hlt : j < i
        · have hlt' : (j : Int) < (i : Int) := by omega
          have HJ := Lib.hid hlt
          obtain ⟨⟨ck, cv, ce, ca, cn, c1, c2, c3⟩, hy⟩ := (⟨_, List.getElem?_eq_getElem (l := l) (i := j) (by rw [HL0.out]; exact hlt)⟩ : ∃ d, l[j]? = some d)
          obtain ⟨b, o, hidx, _, hcell⟩ := indexAt_X (P := Try.prog) HC3.out 46 32 Try.underlying46 Try.sizeCm19 j hlt
          have hce := fun q (hq : q < 8) => (hcell q hq).trans (row_get ccl_len hy q hq)
          have d0 : wr.cell? ⟨b, o, none⟩ = some (.int .i64 ck) := hce 0 (by decide)
          have d1 : wr.cell? ⟨b, o + 1, none⟩ = some (.int .i64 cv) := hce 1 (by decide)
          have d2 : wr.cell? ⟨b, o + 2, none⟩ = some (.int .i64 ce) := hce 2 (by decide)
          have d3 : wr.cell? ⟨b, o + 3, none⟩ = some (.int .i64 ca) := hce 3 (by decide)
          have d4 : wr.cell? ⟨b, o + 4, none⟩ = some (.int .i64 cn) := hce 4 (by decide)
          have d5 : wr.cell? ⟨b, o + 5, none⟩ = some (.int .i64 c1) := hce 5 (by decide)
          have d6 : wr.cell? ⟨b, o + 6, none⟩ = some (.int .i64 c2) := hce 6 (by decide)
          have d7 : wr.cell? ⟨b, o + 7, none⟩ = some (.int .i64 c3) := hce 7 (by decide)
          obtain ⟨C, hC⟩ : ∃ C : Cm, C = ⟨ck, cv, ce, ca, cn, c1, c2, c3⟩ := ⟨_, rfl⟩
          have htk : l.take (j + 1) = l.take j ++ [C] := by rw [List.take_add_one, hy, hC]; rfl
          obtain ⟨L3, hL3⟩ : ∃ z, repL [] (l.take j) = z := ⟨_, rfl⟩
          have hrl : repL [] (l.take (j + 1)) = doL L3 C := by rw [htk, repL_append, hL3]; rfl
          have hrn : repN [] (l.take (j + 1)) = pn + (if doK L3 C = 0 then 1 else 0) := by rw [htk, repN_append, hL3, ← HPN.out]; show pn + ((if doK L3 C = 0 then 1 else 0) + 0) = _; omega
          have hpb : pn ≤ 100 := by rw [HPN.out]; have := repN_le [] (l.take j); rw [List.length_take] at this; omega
          have hok3 : LOk (doL L3 C) 1000 := by rw [← hrl]; exact rep_ok _ _ (by rw [List.length_take]; omega)
          have hb3 := HB3.out
          rw [hL3] at hb3
          have HB3' := Lib.hid hb3
          have HRL := Lib.hid hrl
          have HRN := Lib.hid hrn
          have HOK3 := Lib.hid hok3
          have hk17 := doK_le L3 C
          obtain ⟨k2, hk2⟩ : ∃ z, doK L3 C = z := ⟨_, rfl⟩
          obtain ⟨m2, hm2⟩ : ∃ z, doN L3 C = z := ⟨_, rfl⟩
          have hdo := show Calls Try.prog 8 #[.pointer (some ⟨g2, 0, none⟩), .agg #[.int .i64 ck, .int .i64 cv, .int .i64 ce, .int .i64 ca, .int .i64 cn, .int .i64 c1, .int .i64 c2, .int .i64 c3]] wr fun e w' => e = .returned (.tuple #[.int .i64 (doN L3 C : Int), derr (doK L3 C)]) ∧ MpT wr w.heap.size g2 S3 (doL L3 C) w' from by
            rw [hC]
            exact hb3.do (by decide) ⟨ck, cv, ce, ca, cn, c1, c2, c3⟩
          rw [hk2, hm2] at hdo
          rw [hk2] at hk17 HRN
          have HDO := Lib.hid hdo
          have HK17 := Lib.hid hk17
          clear hce hcell hy hlt hC htk hL3 hrl hrn hok3 hb3 hdo hk17 hk2 hm2
          go_wp2_with fail
          refine HDO.out.mono ?_
          rintro e W3 ⟨rfl, ht⟩
          obtain ⟨S4, hh, hs4, hkp⟩ := HB3'.out.call ht HOK3.out
          have HB4 := Lib.hid (show Dh w W3 g2 S4 (repL [] (l.take (j + 1))) 1000 from by rw [HRL.out]; exact hh)
          have HA4 := Lib.hid (HA3.out.kept hkp (fun z h1 h2 => HDJ3.out z h2 h1) (fun z hz hs => by have := (HB3'.out.mp.lt hs).1; omega))
          have HDJ4 := Lib.hid (show ∀ z, S4 z → ¬ S1 z from fun z h2 h1 => by
            rcases hs4 z h2 with h | h
            · exact HDJ3.out z h h1
            · have := (HA3.out.mp.lt h1).2; omega)
          have HC4 := Lib.hid (HC3.out.kept hkp HCJ3.out)
          have HCJ4 := Lib.hid (show ∀ z, liesX (.slice x i c) i z → ¬ S4 z from fun z h1 h2 => by
            rcases hs4 z h2 with h | h
            · exact HCJ3.out z h1 h
            · have := HC3.out.lies_lt (by decide) h1; omega)
          clear d0 d1 d2 d3 d4 d5 d6 d7 hidx ht hh hs4 hkp
          by_cases hk0 : k2 = 0
          · subst hk0
            rw [derr_zero]
            go_wp2_with (go_at_call 10; refine (code_nil _).mono ?_; rintro e wc ⟨rfl, rfl⟩)
            go_roundw
            case rel => exact ⟨j + 1, pn + 1, S4, by have := HJ.out; omega, by go_num, by go_num, Lib.hid (by rw [HRN.out]; simp), HB4, HA4, HDJ4, HC4, HCJ4⟩
            case measure => simp [intOf] <;> (have := HJ.out; omega)
          · rw [derr_pos hk0]
            have HK0 := Lib.hid hk0
            have hkne : ((k2 : Int) == 0) = false := by rw [beq_eq_false_iff_ne]; omega
            clear hk0
            go_wp2_with (go_at_call 10; refine (code_code _ _ (by have := HK0.out; omega) (by have := HK17.out; omega)).mono ?_; rintro e wc ⟨rfl, rfl⟩)
            go_roundw
            case rel => exact ⟨j + 1, pn, S4, by have := HJ.out; omega, by go_num, rfl, Lib.hid (by rw [HRN.out, if_neg HK0.out]; rfl), HB4, HA4, HDJ4, HC4, HCJ4⟩
            case measure => simp [intOf] <;> (have := HJ.out; omega)
        · obtain rfl : j = i := by omega
          have hpn : pn = R := by rw [HPN.out, HALL.out]; exact HR.out
          subst hpn
          have hb3 := HB3.out
          rw [HALL.out] at hb3
          have HB3' := Lib.hid hb3
          obtain ⟨LA, hLA⟩ : ∃ z, repL [] l = z := ⟨_, rfl⟩
          have ha3 := HA3.out
          rw [hLA] at ha3 hb3
          have HA := Lib.hid ha3
          have HBB := Lib.hid hb3
          clear hLA ha3 hb3 hlt
          go_wp2_with fail
          refine (dbytes wr _ g1 S1 LA HA.out.mp (HA.out.ok.more (by decide))).mono ?_
          rintro e W3 ⟨va, rfl, hva, hb⟩
          have HVA := Lib.hid hva
          have HA4 := Lib.hid (HA.out.below hb)
          have HB4 := Lib.hid (HBB.out.below hb)
          clear hva hb
          go_wp2_with fail
          refine (dbytes W3 _ g2 S3 LA HB4.out.mp (HB4.out.ok.more (by decide))).mono ?_
          rintro e W4 ⟨vb, rfl, hvb, hb⟩
          have HVB := Lib.hid hvb
          have HVA4 := Lib.hid (HVA.out.mono hb (Nat.le_refl _))
          have HA5 := Lib.hid (HA4.out.below hb)
          clear hvb hb
          go_wp2_with fail
          refine (same_any va vb (dby LA) (dby LA) W4 HVA4.out HVB.out (by have := dby_len LA; have := HA.out.ok.len; omega)).mono ?_
          rw [sameB_yes rfl]
          rintro e W5 ⟨rfl, n5, hn5⟩
          have HA6 := Lib.hid (show Dh w W5 g1 S1 LA 1000 from by rw [hn5]; exact HA5.out.drew n5)
          clear hn5
          have HLB := Lib.hid (show LA.length ≤ 4096 from HA.out.ok.len)
          go_wp2_with fail
          go_loopw [15, 16] (fun qv nv wx => ∃ (n C : Nat), n ≤ 256 ∧ nv = .int .i64 n ∧ qv = .int .i64 C ∧ Hid (C = cnt LA n) ∧ Hid (Dh w wx g1 S1 LA 1000)) (fun _ nv _ => 256 - (intOf nv).toNat)
          case atStart => exact ⟨0, 0, Nat.zero_le _, rfl, rfl, Lib.hid rfl, HA6⟩
          case round =>
            obtain ⟨n, C, hn, rfl, rfl, HC, HAn⟩ := hrel
            by_cases hlt : n < 256
            · have hlt' : (n : Int) < 256 := by omega
              have HNL := Lib.hid hlt
              clear hlt
              go_wp2_with fail
              refine (don wr _ g1 S1 LA n HAn.out.mp (HAn.out.ok.more (by decide))).mono ?_
              rintro e W6 ⟨vo, rfl, hvo, hb⟩
              obtain ⟨M, hM⟩ : ∃ z, (onL LA (n : Int)).length = z := ⟨_, rfl⟩
              rw [hM] at hvo
              have HM := Lib.hid hM
              have HMB := Lib.hid (show M ≤ 4096 from by rw [← hM]; have := onL_len LA (n : Int); have := HLB.out; omega)
              have HCB := Lib.hid (show C ≤ 1048576 from by rw [HC.out]; have h1 := cnt_le LA n; have h2 : n * LA.length ≤ 256 * 4096 := Nat.mul_le_mul (by omega) HLB.out; omega)
              have HVO := Lib.hid hvo
              have HA7 := Lib.hid (HAn.out.below hb)
              clear hvo hb hM
              have hlo := fun W => len_X (P := Try.prog) HVO.out 41 3 3 Try.underlying41 W
              go_wp2_with fail
              go_loopw [15, 18] (fun qv iv wx => ∃ (m CC : Nat), m ≤ M ∧ iv = .int .i64 m ∧ qv = .int .i64 CC ∧ Hid (CC = C + m) ∧ Hid (Dh w wx g1 S1 LA 1000) ∧ Hid (IsX wx 1 vo M (row icl (onL LA (n : Int))))) (fun _ iv _ => M - (intOf iv).toNat)
              case atStart => exact ⟨0, C, Nat.zero_le _, rfl, rfl, Lib.hid rfl, HA7, HVO⟩
              case round =>
                obtain ⟨m, CC, hm, rfl, rfl, HCC, HA8, HVO8⟩ := hrel
                by_cases hlt : m < M
                · have hlt' : (m : Int) < (M : Int) := by omega
                  have HML := Lib.hid hlt
                  obtain ⟨y, hy⟩ := (⟨_, List.getElem?_eq_getElem (l := onL LA (n : Int)) (i := m) (by rw [HM.out]; exact hlt)⟩ : ∃ d, (onL LA (n : Int))[m]? = some d)
                  obtain ⟨b, o, hidx, _, hcell⟩ := indexAt_X (P := Try.prog) HVO8.out 41 3 Try.underlying41 Try.sizeInt19 m hlt
                  have d0 : wr.cell? ⟨b, o, none⟩ = some (.int .i64 (y : Int)) := (hcell 0 (by decide)).trans (row_get (enc := icl) (size := 1) (fun _ => rfl) hy 0 (by decide))
                  obtain ⟨⟨ev, ep, ea, eb, ec, es⟩, hle, hhas⟩ := onL_get HA8.out.ok hy
                  have HLE := Lib.hid hle
                  have HHAS := Lib.hid (show (ea : Int) = n ∨ (eb : Int) = n ∨ (ec : Int) = n from hhas)
                  have hCC9 : CC ≤ 1100000 := by rw [HCC.out]; have := HCB.out; have := HMB.out; omega
                  have hM9 : M ≤ 4096 := HMB.out
                  clear hcell hy hle hhas hlt
                  go_wp2_with fail
                  refine (HA8.out.find (by decide) y HLE.out).mono ?_
                  rintro e W7 ⟨rfl, hb⟩
                  have HA9 := Lib.hid (HA8.out.below hb)
                  have HVO9 := Lib.hid (HVO8.out.mono hb (Nat.le_refl _))
                  clear hb d0 hidx
                  have hZ := Blk.new W7 #[.int .i64 (ev : Int), .int .i64 (ep : Int), .int .i64 (ea : Int), .int .i64 (eb : Int), .int .i64 (ec : Int), .bool es] 35
                  have hh := HA9.out.alloc (.cells #[.int .i64 (ev : Int), .int .i64 (ep : Int), .int .i64 (ea : Int), .int .i64 (eb : Int), .int .i64 (ec : Int), .bool es] 35)
                  have hv9 := HVO9.out.mono (below_new19 W7 (.cells #[.int .i64 (ev : Int), .int .i64 (ep : Int), .int .i64 (ea : Int), .int .i64 (eb : Int), .int .i64 (ec : Int), .bool es] 35)) (Nat.le_refl _)
                  obtain ⟨W8, hW⟩ : ∃ z, W7.alloc (.cells #[.int .i64 (ev : Int), .int .i64 (ep : Int), .int .i64 (ea : Int), .int .i64 (eb : Int), .int .i64 (ec : Int), .bool es] 35) = z := ⟨_, rfl⟩
                  rw [hW] at hZ hh hv9
                  obtain ⟨Z, hZe⟩ : ∃ z, W7.heap.size = z := ⟨_, rfl⟩
                  rw [hZe] at hZ
                  have HW8 := Lib.hid hW
                  have HZe := Lib.hid hZe
                  have HZ := Lib.hid hZ
                  have HA10 := Lib.hid hh
                  have HVO10 := Lib.hid hv9
                  clear hW hZe hZ hh hv9
                  unfold eval
                  go_upto_region 30 with fail
                  rw [HW8.out]
                  try rw [HZe.out]
                  have z2 := HZ.out.cell 2 rfl
                  have z3 := HZ.out.cell 3 rfl
                  have z4 := HZ.out.cell 4 rfl
                  by_cases h1 : (ea : Int) = n
                  · have d1 : ((ea : Int) != (n : Int)) = false := by rw [bne_eq_false_iff_eq]; exact h1
                    clear h1
                    go_wp2_with (go_at_call 10; refine (code_nil _).mono ?_; rintro e wc ⟨rfl, rfl⟩)
                    go_roundw
                    case rel => exact ⟨m + 1, CC + 1, by have := HML.out; omega, by go_num, by go_num, Lib.hid (by rw [HCC.out]; omega), HA10, HVO10⟩
                    case measure => simp [intOf] <;> (have := HML.out; omega)
                  · have d1 : ((ea : Int) != (n : Int)) = true := bne_iff_ne.2 h1
                    by_cases h2 : (eb : Int) = n
                    · have d2 : ((eb : Int) != (n : Int)) = false := by rw [bne_eq_false_iff_eq]; exact h2
                      clear h1 h2
                      go_wp2_with (go_at_call 10; refine (code_nil _).mono ?_; rintro e wc ⟨rfl, rfl⟩)
                      go_roundw
                      case rel => exact ⟨m + 1, CC + 1, by have := HML.out; omega, by go_num, by go_num, Lib.hid (by rw [HCC.out]; omega), HA10, HVO10⟩
                      case measure => simp [intOf] <;> (have := HML.out; omega)
                    · have d2 : ((eb : Int) != (n : Int)) = true := bne_iff_ne.2 h2
                      have d3 : ((ec : Int) != (n : Int)) = false := by
                        rw [bne_eq_false_iff_eq]
                        rcases HHAS.out with h | h | h
                        · exact absurd h h1
                        · exact absurd h h2
                        · exact h
                      clear h1 h2
                      go_wp2_with (go_at_call 10; refine (code_nil _).mono ?_; rintro e wc ⟨rfl, rfl⟩)
                      go_roundw
                      case rel => exact ⟨m + 1, CC + 1, by have := HML.out; omega, by go_num, by go_num, Lib.hid (by rw [HCC.out]; omega), HA10, HVO10⟩
                      case measure => simp [intOf] <;> (have := HML.out; omega)
                · obtain rfl : m = M := by omega
                  clear hlt
                  go_wp2_with fail
                  go_roundw
                  case rel => exact ⟨n + 1, CC, by have := HNL.out; omega, by go_num, rfl, Lib.hid (by rw [HCC.out, HC.out]; show _ = cnt LA n + (onL LA (n : Int)).length; rw [HM.out]), HA8⟩
                  case measure => simp [intOf] <;> (have := HNL.out; omega)
            · obtain rfl : n = 256 := by omega
              clear hlt
              have hC : C = 3 * LA.length := by rw [HC.out]; exact cnt_all fun e he => (HAn.out.ok.ok e he).1
              go_wp2_with fail
              refine (dall wr _ g1 S1 LA HAn.out.mp (HAn.out.ok.more (by decide))).mono ?_
              rintro e W6 ⟨vl, rfl, hvl, _, hb⟩
              obtain ⟨M, hM⟩ : ∃ z, LA.length = z := ⟨_, rfl⟩
              rw [hM] at hvl hC
              have hM9 : M ≤ 4096 := by rw [← hM]; exact HLB.out
              have hll := fun W => len_X (P := Try.prog) hvl 39 3 35 Try.underlying39 W
              have HB9 := Lib.hid (HAn.out.below hb).bel
              have hce : (3 : Int) * (M : Int) = (C : Int) := by omega
              clear hvl hb hM hC
              go_wp2
              go_ret
              exact ⟨rfl, HB9.out⟩
end Go.Proofs.Ytibmajicknnbhaa
