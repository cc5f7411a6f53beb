/- The document's answers for layer 3, by contracts: a needle's bytes, and what is alike. -/
import Derived.Test.YteibolajnjdpmaaNeedlee
namespace Go.Proofs.Yteibolajnjdpmaa
open Go.RowKit Go.Cor

theorem refcheck_any (n : Ndl) (v : Value) (w : World) (hv : IsB w v n.data) :
    Calls Try.prog 9 #[nval n v] w fun e w' => e = .returned (.int .i64 (ncheck n : Nat)) ∧ Below w.heap.size w w' := by
  obtain ⟨k, c, g, l⟩ := n
  obtain ⟨d, hd⟩ : ∃ d : Nat, l.length = d := ⟨_, rfl⟩
  obtain ⟨x, cap, rfl, hlc, hcm⟩ := hv.at_len hd
  unfold maxLen at hcm
  have HR : Hid (ncheck ⟨k, c, g, l⟩ = if 4096 < d then 2 else if g = true ∧ 0 < d then 1 else 0) := by
    show ncheck ⟨k, c, g, l⟩ = _
    unfold ncheck
    rw [hd]
  clear hv hd
  by_cases h1 : 4096 < d
  · go_enter Try.func9, Try.ntmps9
    go_wp2
    go_ret
    exact ⟨by rw [HR.out, if_pos h1]; rfl, (Below.refl _ _).alloc (Nat.le_refl _) _⟩
  · cases g with
    | false =>
      go_enter Try.func9, Try.ntmps9
      go_wp2
      go_ret
      exact ⟨by rw [HR.out, if_neg h1]; rfl, (Below.refl _ _).alloc (Nat.le_refl _) _⟩
    | true =>
      by_cases h2 : 0 < d
      · go_enter Try.func9, Try.ntmps9
        go_wp2
        go_ret
        exact ⟨by rw [HR.out, if_neg h1, if_pos ⟨trivial, h2⟩]; rfl, (Below.refl _ _).alloc (Nat.le_refl _) _⟩
      · go_enter Try.func9, Try.ntmps9
        go_wp2
        go_ret
        exact ⟨by rw [HR.out, if_neg h1, if_neg (fun h => h2 h.2)]; rfl, (Below.refl _ _).alloc (Nat.le_refl _) _⟩

theorem refnum_any (n s : Nat) (w : World) (h : Sized (s : Int)) (hn : n ≤ great (s : Int)) :
    Calls Try.prog 26 #[.int .u64 n, .int .i64 (s : Int)] w fun e w' =>
      ∃ v', e = .returned v' ∧ w'.ownsRow w.heap.size 5 1 v' s (bvs (le n s)) ∧ Below w.heap.size w w' := by
  have hs8 : s ≤ 8 := by unfold Sized at h; omega
  have hn8 : n < 18446744073709551616 := by
    have : great (s : Int) ≤ 18446744073709551615 := by rcases h with h | h | h | h <;> rw [h] <;> decide
    omega
  go_enter Try.func26, Try.ntmps26
  go_wp2_with fail
  refine (bytes_any n s _ hn8 hs8).mono ?_
  rintro e w' ⟨v', rfl, hown, hb⟩
  go_wp2
  go_ret
  exact ⟨_, rfl, hown, hb⟩

set_option maxHeartbeats 400000 in
theorem refsame_any (a b : Ndl) (va vb : Value) (w : World) (ha : IsB w va a.data) (hb : IsB w vb b.data) (hl : a.data.length ≤ 1099511627776) :
    Calls Try.prog 18 #[nval a va, nval b vb] w fun e w' => e = .returned (.bool (sameN a b)) ∧ Below w.heap.size w w' := by
  obtain ⟨k1, c1, g1, l⟩ := a
  obtain ⟨k2, c2, g2, m⟩ := b
  by_cases hk : k1 = k2
  · subst hk
    by_cases hc : c1 = c2
    · subst hc
      by_cases hg : g1 = g2
      · subst hg
        rw [sameN_data]
        have HA := Lib.hid ha
        have HB := Lib.hid hb
        clear ha hb
        go_enter Try.func18, Try.ntmps18
        go_wp2_with fail
        refine (same_any _ _ l m _ ?_ ?_ hl).mono ?_
        · exact (HA.out.mono ((Below.refl _ _).alloc (Nat.le_refl _) _) (Nat.le_refl _)).mono ((Below.refl _ _).alloc (Nat.le_refl _) _) (Nat.le_refl _)
        · exact (HB.out.mono ((Below.refl _ _).alloc (Nat.le_refl _) _) (Nat.le_refl _)).mono ((Below.refl _ _).alloc (Nat.le_refl _) _) (Nat.le_refl _)
        rintro e w' ⟨rfl, nd, rfl⟩
        go_wp2
        go_ret
        exact ⟨rfl, below_drewN (((Below.refl _ _).alloc (Nat.le_refl _) _).alloc (by simp) _) nd⟩
      · rw [sameN_gone hg]
        have hgb : (g1 == g2) = false := by simpa using hg
        clear hg
        go_enter Try.func18, Try.ntmps18
        go_wp2
        go_ret
        exact ⟨rfl, ((Below.refl _ _).alloc (Nat.le_refl _) _).alloc (by simp) _⟩
    · rw [sameN_cookie hc]
      have hcb : ((c1 : Int) == (c2 : Int)) = false := by rw [beq_eq_false_iff_ne]; omega
      clear hc
      go_enter Try.func18, Try.ntmps18
      go_wp2
      go_ret
      exact ⟨rfl, ((Below.refl _ _).alloc (Nat.le_refl _) _).alloc (by simp) _⟩
  · rw [sameN_key hk]
    have hkb : ((k1 : Int) == (k2 : Int)) = false := by rw [beq_eq_false_iff_ne]; omega
    clear hk
    go_enter Try.func18, Try.ntmps18
    go_wp2
    go_ret
    exact ⟨rfl, ((Below.refl _ _).alloc (Nat.le_refl _) _).alloc (by simp) _⟩


/-- A slice's length. -/
def lenV : Value → Nat
  | .slice _ n _ => n
  | _ => 0
theorem zlit4 (w : World) : IsB (w.alloc (.cells #[.int .u8 0, .int .u8 0, .int .u8 0, .int .u8 0] 5)) (.slice (some ⟨w.heap.size, 0, none⟩) 4 4) (zerosN 4) := IsB.lit w (zerosN 4) 5 (by decide)
theorem zlit1 (w : World) : IsB (w.alloc (.cells #[.int .u8 0] 5)) (.slice (some ⟨w.heap.size, 0, none⟩) 1 1) (zerosN 1) := IsB.lit w (zerosN 1) 5 (by decide)
theorem front_fin1 {w : World} {B : Nat} {U : TypeId} {v : Value} {F : List UInt8} {k c d f : Nat} (e : F = le 1313162572 4 ++ le f 4 ++ le k 8 ++ le c 4 ++ le d 4)
    (h : w.ownsRow (B + 1) U 1 v ((le 1313162572 4).length + ((le f 4).length + ((le k 8).length + ((le c 4).length + (le d 4).length)))) (bvs (le 1313162572 4 ++ (le f 4 ++ (le k 8 ++ (le c 4 ++ le d 4)))))) :
    w.ownsRow (B + 1) U 1 v F.length (bvs F) := by
  simp only [length_le] at h
  rw [e]
  simpa [length_le] using h

set_option maxRecDepth 100000 in
set_option maxHeartbeats 2000000 in
theorem refput_any (n : Ndl) (v : Value) (w : World) (hv : IsB w v n.data) (hf : n.fits) (hd : n.data.length ≤ 4096) :
    Calls Try.prog 14 #[nval n v] w fun e w' => ∃ v', e = .returned v' ∧ w'.ownsRow w.heap.size 5 1 v' (nbytes n).length (bvs (nbytes n)) ∧ Below w.heap.size w w' := by
  obtain ⟨i0, hi, hz0, hz1, hz2⟩ := info_parts Try.infoU8
  obtain ⟨F, hF⟩ : ∃ F, F = front n := ⟨_, rfl⟩
  obtain ⟨s, hs⟩ : ∃ s, s = crc (F ++ n.data) := ⟨_, rfl⟩
  have hs4 : s < 4294967296 := by rw [hs]; exact crc_lt _
  have HS4 := Lib.hid (show s ≤ great ((4 : Nat) : Int) from Nat.le_of_lt_succ hs4)
  have hNB : nbytes n = F ++ le s 4 ++ zerosN 4 ++ n.data ++ zerosN (padn n.data.length) := by rw [hs, hF]; rfl
  have hFl : F.length = 24 := by rw [hF]; exact length_front n
  have HFl := Lib.hid hFl
  obtain ⟨k, c, g, l⟩ := n
  have HS := Lib.hid (show s = crc (F ++ l) from hs)
  have HNB := Lib.hid (show nbytes ⟨k, c, g, l⟩ = F ++ le s 4 ++ zerosN 4 ++ l ++ zerosN (padn l.length) from hNB)
  obtain ⟨hk, hc⟩ := hf
  obtain ⟨d, hl⟩ : ∃ d : Nat, l.length = d := ⟨_, rfl⟩
  have HL := Lib.hid hl
  have HV := Lib.hid hv
  obtain ⟨x, cap, rfl, hlc, hcm⟩ := hv.at_len hl
  have HF := Lib.hid (show F = le 1313162572 4 ++ le (flagN g) 4 ++ le k 8 ++ le c 4 ++ le d 4 from by rw [hF]; exact front_of hl)
  have hd' : d ≤ 4096 := by rw [← hl]; exact hd
  have HK8 := Lib.hid (show k ≤ great ((8 : Nat) : Int) from Nat.le_of_lt_succ hk)
  have HC4 := Lib.hid (show c ≤ great ((4 : Nat) : Int) from Nat.le_of_lt_succ hc)
  have HD4 := Lib.hid (show d ≤ great ((4 : Nat) : Int) from Nat.le_trans hd' (by decide))
  have HG := Lib.hid (flag_great g)
  have hc' : c < 4294967296 := hc
  have hp8 := padn_lt d
  obtain ⟨p, hp⟩ : ∃ p, p = padn d := ⟨_, rfl⟩
  rw [← hp] at hp8
  have HPD := Lib.hid hp
  clear hv hl hd hk hc hF hs hNB hFl hp
  cases g
  · go_enter Try.func14, Try.ntmps14
    go_wp2_with fail
    refine (refnum_any 1313162572 4 _ (.inr (.inr (.inl rfl))) (by decide)).mono ?_
    rintro e w1 ⟨v1, rfl, hown1, hb1⟩
    have hs1 : w.heap.size + 1 ≤ w1.heap.size := Nat.le_trans (by simp) hb1.size
    have HX1 := Lib.hid ((Boxed.new w _ _ 26).mono hb1 (by simp) : Boxed w1 w.heap.size ⟨k, c, false, l⟩ (.slice x d cap))
    have HB1 := Lib.hid ((((Below.refl w.heap.size w).alloc (Nat.le_refl _) _).trans (hb1.mono (by simp))) : Below w.heap.size w w1)
    have HO1 := Lib.hid (ownsRow_base hown1 (show w.heap.size + 1 ≤ _ from by simp))
    clear hown1 hb1
    go_wp2_with fail
    refine (refnum_any (flagN false) 4 _ (.inr (.inr (.inl rfl))) HG.out).mono ?_
    rintro e w2 ⟨v2, rfl, hown2, hb2⟩
    have hs2 : w.heap.size + 1 ≤ w2.heap.size := Nat.le_trans hs1 hb2.size
    have HX2 := Lib.hid (HX1.out.mono hb2 hs1)
    have HB2 := Lib.hid (HB1.out.trans (hb2.mono (Nat.le_of_succ_le hs1)))
    have HO2 := Lib.hid (ownsRow_below HO1.out hb2 (Nat.le_refl _))
    have HN := Lib.hid (IsB.own hown2 (length_le _ _).symm)
    clear hown2 hb2 HX1 HO1 HB1 hs1
    go_wp2_with (at_builtin; refine wpList_append_B (by rfl) _ _ 24 rfl (w.heap.size + 1) 5 i0 Try.underlying24 hi hz0 hz1 hz2 _ (le 1313162572 4) _ rfl HO2.out ((length_le _ _).symm) _ (le (flagN false) 4) rfl (HN.out) (by simp [length_le]) hs2 ?_)
    intro v3 w3 hown3 hb3
    have hs3 : w.heap.size + 1 ≤ w3.heap.size := Nat.le_trans hs2 hb3.size
    have HX3 := Lib.hid (HX2.out.mono hb3 (Nat.lt_succ_self _))
    have HB3 := Lib.hid (HB2.out.trans (hb3.mono (Nat.le_succ _)))
    have HO3 := Lib.hid hown3
    clear hown3 hb3 HX2 HO2 HB2 hs2
    obtain ⟨q0, q1, q2, q3⟩ := HX3.out
    go_wp2_with fail
    refine (refnum_any k 8 _ (.inr (.inr (.inr rfl))) HK8.out).mono ?_
    rintro e w4 ⟨v4, rfl, hown4, hb4⟩
    have hs4 : w.heap.size + 1 ≤ w4.heap.size := Nat.le_trans hs3 hb4.size
    have HX4 := Lib.hid (HX3.out.mono hb4 hs3)
    have HB4 := Lib.hid (HB3.out.trans (hb4.mono (Nat.le_of_succ_le hs3)))
    have HO4 := Lib.hid (ownsRow_below HO3.out hb4 (Nat.le_refl _))
    have HN := Lib.hid (IsB.own hown4 (length_le _ _).symm)
    clear hown4 hb4 HX3 HO3 HB3 hs3
    clear q0 q1 q2 q3
    go_wp2_with (at_builtin; refine wpList_append_B (by rfl) _ _ 24 rfl (w.heap.size + 1) 5 i0 Try.underlying24 hi hz0 hz1 hz2 _ ((le 1313162572 4) ++ (le (flagN false) 4)) _ rfl HO4.out (rfl) _ (le k 8) rfl (HN.out) (by simp [length_le]) hs4 ?_)
    intro v5 w5 hown5 hb5
    have hs5 : w.heap.size + 1 ≤ w5.heap.size := Nat.le_trans hs4 hb5.size
    have HX5 := Lib.hid (HX4.out.mono hb5 (Nat.lt_succ_self _))
    have HB5 := Lib.hid (HB4.out.trans (hb5.mono (Nat.le_succ _)))
    have HO5 := Lib.hid hown5
    clear hown5 hb5 HX4 HO4 HB4 hs4
    obtain ⟨q0, q1, q2, q3⟩ := HX5.out
    go_wp2_with fail
    refine (refnum_any c 4 _ (.inr (.inr (.inl rfl))) HC4.out).mono ?_
    rintro e w6 ⟨v6, rfl, hown6, hb6⟩
    have hs6 : w.heap.size + 1 ≤ w6.heap.size := Nat.le_trans hs5 hb6.size
    have HX6 := Lib.hid (HX5.out.mono hb6 hs5)
    have HB6 := Lib.hid (HB5.out.trans (hb6.mono (Nat.le_of_succ_le hs5)))
    have HO6 := Lib.hid (ownsRow_below HO5.out hb6 (Nat.le_refl _))
    have HN := Lib.hid (IsB.own hown6 (length_le _ _).symm)
    clear hown6 hb6 HX5 HO5 HB5 hs5
    clear q0 q1 q2 q3
    go_wp2_with (at_builtin; refine wpList_append_B (by rfl) _ _ 24 rfl (w.heap.size + 1) 5 i0 Try.underlying24 hi hz0 hz1 hz2 _ (((le 1313162572 4) ++ (le (flagN false) 4)) ++ (le k 8)) _ rfl HO6.out (rfl) _ (le c 4) rfl (HN.out) (by simp [length_le]) hs6 ?_)
    intro v7 w7 hown7 hb7
    have hs7 : w.heap.size + 1 ≤ w7.heap.size := Nat.le_trans hs6 hb7.size
    have HX7 := Lib.hid (HX6.out.mono hb7 (Nat.lt_succ_self _))
    have HB7 := Lib.hid (HB6.out.trans (hb7.mono (Nat.le_succ _)))
    have HO7 := Lib.hid hown7
    clear hown7 hb7 HX6 HO6 HB6 hs6
    obtain ⟨q0, q1, q2, q3⟩ := HX7.out
    go_wp2_with fail
    refine (refnum_any d 4 _ (.inr (.inr (.inl rfl))) HD4.out).mono ?_
    rintro e w8 ⟨v8, rfl, hown8, hb8⟩
    have hs8 : w.heap.size + 1 ≤ w8.heap.size := Nat.le_trans hs7 hb8.size
    have HX8 := Lib.hid (HX7.out.mono hb8 hs7)
    have HB8 := Lib.hid (HB7.out.trans (hb8.mono (Nat.le_of_succ_le hs7)))
    have HO8 := Lib.hid (ownsRow_below HO7.out hb8 (Nat.le_refl _))
    have HN := Lib.hid (IsB.own hown8 (length_le _ _).symm)
    clear hown8 hb8 HX7 HO7 HB7 hs7
    clear q0 q1 q2 q3
    go_wp2_with (at_builtin; refine wpList_append_B (by rfl) _ _ 24 rfl (w.heap.size + 1) 5 i0 Try.underlying24 hi hz0 hz1 hz2 _ ((((le 1313162572 4) ++ (le (flagN false) 4)) ++ (le k 8)) ++ (le c 4)) _ rfl HO8.out (rfl) _ (le d 4) rfl (HN.out) (by simp [length_le]) hs8 ?_)
    intro v9 w9 hown9 hb9
    have hs9 : w.heap.size + 1 ≤ w9.heap.size := Nat.le_trans hs8 hb9.size
    have HX9 := Lib.hid (HX8.out.mono hb9 (Nat.lt_succ_self _))
    have HB9 := Lib.hid (HB8.out.trans (hb9.mono (Nat.le_succ _)))
    have HO9 := Lib.hid hown9
    clear hown9 hb9 HX8 HO8 HB8 hs8
    have HF9 := Lib.hid (front_fin1 HF.out HO9.out)
    have HFB := Lib.hid (IsB.own HF9.out rfl)
    have HV9 := Lib.hid (HV.out.mono HB9.out (Nat.le_refl _))
    clear HO9
    go_upto_region 8 with fail
    go_cut [5] from 30 to 36 (fun q wx => q = .int .u32 (s : Int) ∧ Below w9.heap.size w9 wx)
    case first =>
      obtain ⟨q0, q1, q2, q3⟩ := HX9.out
      have HA := Lib.hid (show IsB (w9.drew.alloc (.cells #[] 5)) v9 F from HFB.out.mono (((Below.refl w9.heap.size w9).drew).alloc (Nat.le_refl _) (.cells #[] 5)) (Nat.le_refl _))
      have HVA := Lib.hid (show IsB (w9.drew.alloc (.cells #[] 5)) (.slice x d cap) l from HV9.out.mono (((Below.refl w9.heap.size w9).drew).alloc (Nat.le_refl _) (.cells #[] 5)) (Nat.le_refl _))
      have k3 : (w9.drew.alloc (.cells #[] 5)).cell? ⟨w.heap.size, 3, none⟩ = some (.slice x d cap) := ((((Below.refl w9.heap.size w9).drew).alloc (Nat.le_refl _) (.cells #[] 5)).cell (p := ⟨w.heap.size, 3, none⟩) hs9).trans q3
      have hb1 := Lib.hid (show ([] : List UInt8).length + F.length ≤ 1099511627776 from by rw [HFl.out]; decide)
      have hb2 := Lib.hid (show F.length + l.length ≤ 1099511627776 from by rw [HFl.out, HL.out]; omega)
      have hb3 := Lib.hid (show (F ++ l).length ≤ 1099511627776 from by rw [List.length_append]; exact hb2.out)
      go_wp2_with fail
      go_region_held3 (fun wx => wx.cell? ⟨w.heap.size, 3, none⟩ = some (.slice x d cap)) (first | exact q3 | exact k3 | exact c3a | exact c3b) (first
        | (refine step_append_B (by rfl) (.tmp 30) (.tmp 31) 24 rfl w9.heap.size 5 i0 Try.underlying24 hi hz0 hz1 hz2 _ [] 0 rfl (World.ownsRow_lit _ #[] 0 (Nat.le_refl _) (Nat.zero_le _) rfl) rfl _ F rfl HA.out hb1.out (by simp) ?_; intro va wa howna hba; have hsa := Nat.le_trans (show w9.heap.size ≤ (w9.drew.alloc (.cells #[] 5)).heap.size from by simp) hba.size; have c3a := (hba.cell (p := ⟨w.heap.size, 3, none⟩) hs9).trans k3; have HVa := HV9.out.mono ((((Below.refl w9.heap.size w9).drew).alloc (Nat.le_refl _) (.cells #[] 5)).trans hba) (Nat.le_refl _))
        | (refine step_append_B (by rfl) (.tmp 32) (.tmp 34) 24 rfl w9.heap.size 5 i0 Try.underlying24 hi hz0 hz1 hz2 _ F F.length rfl howna rfl _ l rfl HVa hb2.out hsa ?_; intro vb wb hownb hbb; have c3b := (hbb.cell (p := ⟨w.heap.size, 3, none⟩) hs9).trans c3a; have e1 := IsB.own (l := F ++ l) hownb (by simp))
        | (go_at_call 27; with_reducible refine (refof_any _ (F ++ l) _ e1 hb3.out).mono ?_; rintro e w' ⟨rfl, rfl⟩; rw [← HS.out]))
      go_wp2_with fail
      go_meet
      exact ⟨rfl, (((Below.refl w9.heap.size w9).alloc (Nat.le_refl _) _).drew.trans hba).trans hbb⟩
    case rest =>
      obtain ⟨rfl, hbc⟩ := hcut
      have hs10 : w.heap.size + 1 ≤ wc.heap.size := Nat.le_trans hs9 hbc.size
      have HX10 := Lib.hid (HX9.out.mono hbc hs9)
      have HB10 := Lib.hid (HB9.out.trans (hbc.mono (Nat.le_of_succ_le hs9)))
      have HO10 := Lib.hid (ownsRow_below HF9.out hbc (Nat.le_refl _))
      clear hbc HX9 HB9 HF9 HFB HV9 hs9
      go_wp2_with fail
      refine (refnum_any s 4 _ (.inr (.inr (.inl rfl))) HS4.out).mono ?_
      rintro e w11 ⟨v11, rfl, hown11, hb11⟩
      have hs11 : w.heap.size + 1 ≤ w11.heap.size := Nat.le_trans hs10 hb11.size
      have HX11 := Lib.hid (HX10.out.mono hb11 hs10)
      have HB11 := Lib.hid (HB10.out.trans (hb11.mono (Nat.le_of_succ_le hs10)))
      have HO11 := Lib.hid (ownsRow_below HO10.out hb11 (Nat.le_refl _))
      have HN11 := Lib.hid (IsB.own hown11 (length_le _ _).symm)
      clear hown11 hb11 HX10 HO10 HB10 hs10
      go_wp2_with (at_builtin; refine wpList_append_B (by rfl) _ _ 24 rfl (w.heap.size + 1) 5 i0 Try.underlying24 hi hz0 hz1 hz2 _ F _ rfl HO11.out rfl _ (le s 4) rfl HN11.out (by rw [HFl.out, length_le]; decide) hs11 ?_)
      intro v12 w12 hown12 hb12
      obtain ⟨X12, hX12⟩ : ∃ X, X = F ++ le s 4 := ⟨_, rfl⟩
      have HO12 := Lib.hid (show w12.ownsRow (w.heap.size + 1) 5 1 v12 X12.length (bvs X12) from by rw [hX12]; simpa using hown12)
      have HL12 := Lib.hid (show X12.length = 28 from by rw [hX12, List.length_append, HFl.out, length_le])
      have HE12 := Lib.hid hX12
      have hs12 : w.heap.size + 1 ≤ w12.heap.size := Nat.le_trans hs11 hb12.size
      have HX12 := Lib.hid (HX11.out.mono hb12 (Nat.lt_succ_self _))
      have HB12 := Lib.hid (HB11.out.trans (hb12.mono (Nat.le_succ _)))
      clear hown12 hb12 hX12 HX11 HO11 HB11 hs11 HN11
      go_wp2_with (at_builtin; refine wpList_append_B (by rfl) _ _ 24 rfl (w.heap.size + 1) 5 i0 Try.underlying24 hi hz0 hz1 hz2 _ X12 _ rfl (HO12.out.alloc _) rfl _ (zerosN 4) rfl (zlit4 w12) (by rw [HL12.out]; decide) (Nat.le_trans hs12 (by simp)) ?_)
      intro v13 w13 hown13 hb13
      obtain ⟨X13, hX13⟩ : ∃ X, X = X12 ++ zerosN 4 := ⟨_, rfl⟩
      have HO13 := Lib.hid (show w13.ownsRow (w.heap.size + 1) 5 1 v13 X13.length (bvs X13) from by rw [hX13]; simpa using hown13)
      have HL13 := Lib.hid (show X13.length = 32 from by rw [hX13, List.length_append, HL12.out, length_zerosN])
      have HE13 := Lib.hid hX13
      have hb13' : Below (w.heap.size + 1) w12 w13 := (((Below.refl _ _).alloc hs12 _).trans hb13)
      have hs13 : w.heap.size + 1 ≤ w13.heap.size := Nat.le_trans hs12 hb13'.size
      have HX13 := Lib.hid (HX12.out.mono hb13' (Nat.lt_succ_self _))
      have HB13 := Lib.hid (HB12.out.trans (hb13'.mono (Nat.le_succ _)))
      have HV13 := Lib.hid (HV.out.mono HB13.out (Nat.le_refl _))
      clear hown13 hb13 hb13' hX13 HX12 HO12 HB12 hs12
      obtain ⟨q0, q1, q2, q3⟩ := HX13.out
      go_wp2_with (at_builtin; refine wpList_append_B (by rfl) _ _ 24 rfl (w.heap.size + 1) 5 i0 Try.underlying24 hi hz0 hz1 hz2 _ X13 _ rfl HO13.out rfl _ l rfl HV13.out (by rw [HL13.out, HL.out]; omega) hs13 ?_)
      intro v14 w14 hown14 hb14
      obtain ⟨X14, hX14⟩ : ∃ X, X = X13 ++ l := ⟨_, rfl⟩
      have HL14 := Lib.hid (show X14.length = 32 + d from by rw [hX14, List.length_append, HL13.out, HL.out])
      have HO14 := Lib.hid (show w14.ownsRow (w.heap.size + 1) 5 1 v14 (32 + d) (bvs X14) from by rw [← HL14.out, hX14]; simpa using hown14)
      have HE14 := Lib.hid hX14
      have hs14 : w.heap.size + 1 ≤ w14.heap.size := Nat.le_trans hs13 hb14.size
      have HB14 := Lib.hid (HB13.out.trans (hb14.mono (Nat.le_succ _)))
      have HR := Lib.hid (show nbytes ⟨k, c, false, l⟩ = X14 ++ zerosN p from by rw [HNB.out, HE14.out, HE13.out, HE12.out, HPD.out, ← HL.out])
      clear hown14 hb14 hX14 HX13 HO13 HB13 hs13 HV13 q0 q1 q2 q3
      obtain ⟨x14, c14, rfl⟩ := ownsRow_slice HO14.out
      go_wp2_with fail
      have hpd : p = (8 - d % 8) % 8 := HPD.out
      have HPp := Lib.hid hpd
      clear hpd
      go_loopw [4] (fun b wr => ∃ (m : Nat) (y : Option Addr) (cy : Nat), 32 + d ≤ m ∧ m ≤ 32 + d + p ∧ b = .slice y m cy ∧ Hid (wr.ownsRow (w.heap.size + 1) 5 1 (.slice y m cy) m (bvs (X14 ++ zerosN (m - (32 + d))))) ∧ Below w.heap.size w wr ∧ w.heap.size + 1 ≤ wr.heap.size) (fun b _ => 32 + d + p - lenV b)
      case atStart => exact ⟨32 + d, x14, c14, by omega, by omega, rfl, Lib.hid (by simpa [zerosN] using HO14.out), HB14.out, hs14⟩
      case round =>
        obtain ⟨m, y, cy, hm1, hm2, rfl, hO, hbr, hsr⟩ := hrel
        have hml : m ≤ 5000 := by omega
        by_cases hlt : m < 32 + d + p
        · have hb : ((m : Int) % 8 != 0) = true := by
            have := HPp.out
            rw [bne_iff_ne]
            omega
          obtain ⟨X, hX⟩ : ∃ X, X = X14 ++ zerosN (m - (32 + d)) := ⟨_, rfl⟩
          have HXl := Lib.hid (show m = X.length from by rw [hX, List.length_append, HL14.out, length_zerosN]; omega)
          have HO := Lib.hid (show wr.ownsRow (w.heap.size + 1) 5 1 (.slice y m cy) m (bvs X) from by rw [hX]; exact hO.out)
          have HXX := Lib.hid (show X ++ zerosN 1 = X14 ++ zerosN (m + 1 - (32 + d)) from by rw [hX, List.append_assoc]; congr 1; unfold zerosN; rw [List.replicate_append_replicate]; congr 1; omega)
          clear hX hO
          go_wp2_with (at_builtin; refine wpList_append_B (by rfl) _ _ 24 rfl (w.heap.size + 1) 5 i0 Try.underlying24 hi hz0 hz1 hz2 _ X m rfl (HO.out.alloc _) HXl.out _ (zerosN 1) rfl (zlit1 wr) (by rw [← HXl.out]; simp [zerosN]; omega) (Nat.le_trans hsr (by simp)) ?_)
          intro v15 w15 hown15 hb15
          have HO15 := Lib.hid (show w15.ownsRow (w.heap.size + 1) 5 1 v15 (m + 1) (bvs (X14 ++ zerosN (m + 1 - (32 + d)))) from by rw [← HXX.out, HXl.out]; simpa [zerosN] using hown15)
          have hb15' : Below (w.heap.size + 1) wr w15 := ((Below.refl _ _).alloc hsr _).trans hb15
          have hs15 : w.heap.size + 1 ≤ w15.heap.size := Nat.le_trans hsr hb15'.size
          have HB15 := hbr.trans (hb15'.mono (Nat.le_succ _))
          obtain ⟨y', c', rfl⟩ := ownsRow_slice HO15.out
          clear hown15 hb15 hb15' HO hb
          go_wp2
          go_roundw
          case rel => exact ⟨m + 1, y', c', by omega, by omega, rfl, HO15.out, HB15, hs15⟩
          case measure => simp [lenV]; omega
        · obtain rfl : m = 32 + d + p := by omega
          have hb : ((((32 + d + p : Nat)) : Int) % 8 != 0) = false := by
            have := HPp.out
            rw [bne_eq_false_iff_eq]
            omega
          have HO16 := Lib.hid (show wr.ownsRow w.heap.size 5 1 (.slice y (32 + d + p) cy) (nbytes ⟨k, c, false, l⟩).length (bvs (nbytes ⟨k, c, false, l⟩)) from by
            rw [HR.out]
            have h := ownsRow_base hO.out (Nat.le_succ w.heap.size)
            rw [show 32 + d + p - (32 + d) = p from by omega] at h
            rw [show (X14 ++ zerosN p).length = 32 + d + p from by rw [List.length_append, HL14.out, length_zerosN]]
            exact h)
          obtain ⟨M, hM⟩ : ∃ M, M = 32 + d + p := ⟨_, rfl⟩
          rw [← hM] at hb HO16
          simp only [← hM]
          clear hM
          go_wp2
          go_ret
          exact ⟨_, rfl, HO16.out, hbr⟩
  · go_enter Try.func14, Try.ntmps14
    go_wp2_with fail
    refine (refnum_any 1313162572 4 _ (.inr (.inr (.inl rfl))) (by decide)).mono ?_
    rintro e w1 ⟨v1, rfl, hown1, hb1⟩
    have hs1 : w.heap.size + 1 ≤ w1.heap.size := Nat.le_trans (by simp) hb1.size
    have HX1 := Lib.hid ((Boxed.new w _ _ 26).mono hb1 (by simp) : Boxed w1 w.heap.size ⟨k, c, true, l⟩ (.slice x d cap))
    have HB1 := Lib.hid ((((Below.refl w.heap.size w).alloc (Nat.le_refl _) _).trans (hb1.mono (by simp))) : Below w.heap.size w w1)
    have HO1 := Lib.hid (ownsRow_base hown1 (show w.heap.size + 1 ≤ _ from by simp))
    clear hown1 hb1
    go_wp2_with fail
    refine (refnum_any (flagN true) 4 _ (.inr (.inr (.inl rfl))) HG.out).mono ?_
    rintro e w2 ⟨v2, rfl, hown2, hb2⟩
    have hs2 : w.heap.size + 1 ≤ w2.heap.size := Nat.le_trans hs1 hb2.size
    have HX2 := Lib.hid (HX1.out.mono hb2 hs1)
    have HB2 := Lib.hid (HB1.out.trans (hb2.mono (Nat.le_of_succ_le hs1)))
    have HO2 := Lib.hid (ownsRow_below HO1.out hb2 (Nat.le_refl _))
    have HN := Lib.hid (IsB.own hown2 (length_le _ _).symm)
    clear hown2 hb2 HX1 HO1 HB1 hs1
    go_wp2_with (at_builtin; refine wpList_append_B (by rfl) _ _ 24 rfl (w.heap.size + 1) 5 i0 Try.underlying24 hi hz0 hz1 hz2 _ (le 1313162572 4) _ rfl HO2.out ((length_le _ _).symm) _ (le (flagN true) 4) rfl (HN.out) (by simp [length_le]) hs2 ?_)
    intro v3 w3 hown3 hb3
    have hs3 : w.heap.size + 1 ≤ w3.heap.size := Nat.le_trans hs2 hb3.size
    have HX3 := Lib.hid (HX2.out.mono hb3 (Nat.lt_succ_self _))
    have HB3 := Lib.hid (HB2.out.trans (hb3.mono (Nat.le_succ _)))
    have HO3 := Lib.hid hown3
    clear hown3 hb3 HX2 HO2 HB2 hs2
    obtain ⟨q0, q1, q2, q3⟩ := HX3.out
    go_wp2_with fail
    refine (refnum_any k 8 _ (.inr (.inr (.inr rfl))) HK8.out).mono ?_
    rintro e w4 ⟨v4, rfl, hown4, hb4⟩
    have hs4 : w.heap.size + 1 ≤ w4.heap.size := Nat.le_trans hs3 hb4.size
    have HX4 := Lib.hid (HX3.out.mono hb4 hs3)
    have HB4 := Lib.hid (HB3.out.trans (hb4.mono (Nat.le_of_succ_le hs3)))
    have HO4 := Lib.hid (ownsRow_below HO3.out hb4 (Nat.le_refl _))
    have HN := Lib.hid (IsB.own hown4 (length_le _ _).symm)
    clear hown4 hb4 HX3 HO3 HB3 hs3
    clear q0 q1 q2 q3
    go_wp2_with (at_builtin; refine wpList_append_B (by rfl) _ _ 24 rfl (w.heap.size + 1) 5 i0 Try.underlying24 hi hz0 hz1 hz2 _ ((le 1313162572 4) ++ (le (flagN true) 4)) _ rfl HO4.out (rfl) _ (le k 8) rfl (HN.out) (by simp [length_le]) hs4 ?_)
    intro v5 w5 hown5 hb5
    have hs5 : w.heap.size + 1 ≤ w5.heap.size := Nat.le_trans hs4 hb5.size
    have HX5 := Lib.hid (HX4.out.mono hb5 (Nat.lt_succ_self _))
    have HB5 := Lib.hid (HB4.out.trans (hb5.mono (Nat.le_succ _)))
    have HO5 := Lib.hid hown5
    clear hown5 hb5 HX4 HO4 HB4 hs4
    obtain ⟨q0, q1, q2, q3⟩ := HX5.out
    go_wp2_with fail
    refine (refnum_any c 4 _ (.inr (.inr (.inl rfl))) HC4.out).mono ?_
    rintro e w6 ⟨v6, rfl, hown6, hb6⟩
    have hs6 : w.heap.size + 1 ≤ w6.heap.size := Nat.le_trans hs5 hb6.size
    have HX6 := Lib.hid (HX5.out.mono hb6 hs5)
    have HB6 := Lib.hid (HB5.out.trans (hb6.mono (Nat.le_of_succ_le hs5)))
    have HO6 := Lib.hid (ownsRow_below HO5.out hb6 (Nat.le_refl _))
    have HN := Lib.hid (IsB.own hown6 (length_le _ _).symm)
    clear hown6 hb6 HX5 HO5 HB5 hs5
    clear q0 q1 q2 q3
    go_wp2_with (at_builtin; refine wpList_append_B (by rfl) _ _ 24 rfl (w.heap.size + 1) 5 i0 Try.underlying24 hi hz0 hz1 hz2 _ (((le 1313162572 4) ++ (le (flagN true) 4)) ++ (le k 8)) _ rfl HO6.out (rfl) _ (le c 4) rfl (HN.out) (by simp [length_le]) hs6 ?_)
    intro v7 w7 hown7 hb7
    have hs7 : w.heap.size + 1 ≤ w7.heap.size := Nat.le_trans hs6 hb7.size
    have HX7 := Lib.hid (HX6.out.mono hb7 (Nat.lt_succ_self _))
    have HB7 := Lib.hid (HB6.out.trans (hb7.mono (Nat.le_succ _)))
    have HO7 := Lib.hid hown7
    clear hown7 hb7 HX6 HO6 HB6 hs6
    obtain ⟨q0, q1, q2, q3⟩ := HX7.out
    go_wp2_with fail
    refine (refnum_any d 4 _ (.inr (.inr (.inl rfl))) HD4.out).mono ?_
    rintro e w8 ⟨v8, rfl, hown8, hb8⟩
    have hs8 : w.heap.size + 1 ≤ w8.heap.size := Nat.le_trans hs7 hb8.size
    have HX8 := Lib.hid (HX7.out.mono hb8 hs7)
    have HB8 := Lib.hid (HB7.out.trans (hb8.mono (Nat.le_of_succ_le hs7)))
    have HO8 := Lib.hid (ownsRow_below HO7.out hb8 (Nat.le_refl _))
    have HN := Lib.hid (IsB.own hown8 (length_le _ _).symm)
    clear hown8 hb8 HX7 HO7 HB7 hs7
    clear q0 q1 q2 q3
    go_wp2_with (at_builtin; refine wpList_append_B (by rfl) _ _ 24 rfl (w.heap.size + 1) 5 i0 Try.underlying24 hi hz0 hz1 hz2 _ ((((le 1313162572 4) ++ (le (flagN true) 4)) ++ (le k 8)) ++ (le c 4)) _ rfl HO8.out (rfl) _ (le d 4) rfl (HN.out) (by simp [length_le]) hs8 ?_)
    intro v9 w9 hown9 hb9
    have hs9 : w.heap.size + 1 ≤ w9.heap.size := Nat.le_trans hs8 hb9.size
    have HX9 := Lib.hid (HX8.out.mono hb9 (Nat.lt_succ_self _))
    have HB9 := Lib.hid (HB8.out.trans (hb9.mono (Nat.le_succ _)))
    have HO9 := Lib.hid hown9
    clear hown9 hb9 HX8 HO8 HB8 hs8
    have HF9 := Lib.hid (front_fin1 HF.out HO9.out)
    have HFB := Lib.hid (IsB.own HF9.out rfl)
    have HV9 := Lib.hid (HV.out.mono HB9.out (Nat.le_refl _))
    clear HO9
    go_upto_region 8 with fail
    go_cut [5] from 30 to 36 (fun q wx => q = .int .u32 (s : Int) ∧ Below w9.heap.size w9 wx)
    case first =>
      obtain ⟨q0, q1, q2, q3⟩ := HX9.out
      have HA := Lib.hid (show IsB (w9.drew.alloc (.cells #[] 5)) v9 F from HFB.out.mono (((Below.refl w9.heap.size w9).drew).alloc (Nat.le_refl _) (.cells #[] 5)) (Nat.le_refl _))
      have HVA := Lib.hid (show IsB (w9.drew.alloc (.cells #[] 5)) (.slice x d cap) l from HV9.out.mono (((Below.refl w9.heap.size w9).drew).alloc (Nat.le_refl _) (.cells #[] 5)) (Nat.le_refl _))
      have k3 : (w9.drew.alloc (.cells #[] 5)).cell? ⟨w.heap.size, 3, none⟩ = some (.slice x d cap) := ((((Below.refl w9.heap.size w9).drew).alloc (Nat.le_refl _) (.cells #[] 5)).cell (p := ⟨w.heap.size, 3, none⟩) hs9).trans q3
      have hb1 := Lib.hid (show ([] : List UInt8).length + F.length ≤ 1099511627776 from by rw [HFl.out]; decide)
      have hb2 := Lib.hid (show F.length + l.length ≤ 1099511627776 from by rw [HFl.out, HL.out]; omega)
      have hb3 := Lib.hid (show (F ++ l).length ≤ 1099511627776 from by rw [List.length_append]; exact hb2.out)
      go_wp2_with fail
      go_region_held3 (fun wx => wx.cell? ⟨w.heap.size, 3, none⟩ = some (.slice x d cap)) (first | exact q3 | exact k3 | exact c3a | exact c3b) (first
        | (refine step_append_B (by rfl) (.tmp 30) (.tmp 31) 24 rfl w9.heap.size 5 i0 Try.underlying24 hi hz0 hz1 hz2 _ [] 0 rfl (World.ownsRow_lit _ #[] 0 (Nat.le_refl _) (Nat.zero_le _) rfl) rfl _ F rfl HA.out hb1.out (by simp) ?_; intro va wa howna hba; have hsa := Nat.le_trans (show w9.heap.size ≤ (w9.drew.alloc (.cells #[] 5)).heap.size from by simp) hba.size; have c3a := (hba.cell (p := ⟨w.heap.size, 3, none⟩) hs9).trans k3; have HVa := HV9.out.mono ((((Below.refl w9.heap.size w9).drew).alloc (Nat.le_refl _) (.cells #[] 5)).trans hba) (Nat.le_refl _))
        | (refine step_append_B (by rfl) (.tmp 32) (.tmp 34) 24 rfl w9.heap.size 5 i0 Try.underlying24 hi hz0 hz1 hz2 _ F F.length rfl howna rfl _ l rfl HVa hb2.out hsa ?_; intro vb wb hownb hbb; have c3b := (hbb.cell (p := ⟨w.heap.size, 3, none⟩) hs9).trans c3a; have e1 := IsB.own (l := F ++ l) hownb (by simp))
        | (go_at_call 27; with_reducible refine (refof_any _ (F ++ l) _ e1 hb3.out).mono ?_; rintro e w' ⟨rfl, rfl⟩; rw [← HS.out]))
      go_wp2_with fail
      go_meet
      exact ⟨rfl, (((Below.refl w9.heap.size w9).alloc (Nat.le_refl _) _).drew.trans hba).trans hbb⟩
    case rest =>
      obtain ⟨rfl, hbc⟩ := hcut
      have hs10 : w.heap.size + 1 ≤ wc.heap.size := Nat.le_trans hs9 hbc.size
      have HX10 := Lib.hid (HX9.out.mono hbc hs9)
      have HB10 := Lib.hid (HB9.out.trans (hbc.mono (Nat.le_of_succ_le hs9)))
      have HO10 := Lib.hid (ownsRow_below HF9.out hbc (Nat.le_refl _))
      clear hbc HX9 HB9 HF9 HFB HV9 hs9
      go_wp2_with fail
      refine (refnum_any s 4 _ (.inr (.inr (.inl rfl))) HS4.out).mono ?_
      rintro e w11 ⟨v11, rfl, hown11, hb11⟩
      have hs11 : w.heap.size + 1 ≤ w11.heap.size := Nat.le_trans hs10 hb11.size
      have HX11 := Lib.hid (HX10.out.mono hb11 hs10)
      have HB11 := Lib.hid (HB10.out.trans (hb11.mono (Nat.le_of_succ_le hs10)))
      have HO11 := Lib.hid (ownsRow_below HO10.out hb11 (Nat.le_refl _))
      have HN11 := Lib.hid (IsB.own hown11 (length_le _ _).symm)
      clear hown11 hb11 HX10 HO10 HB10 hs10
      go_wp2_with (at_builtin; refine wpList_append_B (by rfl) _ _ 24 rfl (w.heap.size + 1) 5 i0 Try.underlying24 hi hz0 hz1 hz2 _ F _ rfl HO11.out rfl _ (le s 4) rfl HN11.out (by rw [HFl.out, length_le]; decide) hs11 ?_)
      intro v12 w12 hown12 hb12
      obtain ⟨X12, hX12⟩ : ∃ X, X = F ++ le s 4 := ⟨_, rfl⟩
      have HO12 := Lib.hid (show w12.ownsRow (w.heap.size + 1) 5 1 v12 X12.length (bvs X12) from by rw [hX12]; simpa using hown12)
      have HL12 := Lib.hid (show X12.length = 28 from by rw [hX12, List.length_append, HFl.out, length_le])
      have HE12 := Lib.hid hX12
      have hs12 : w.heap.size + 1 ≤ w12.heap.size := Nat.le_trans hs11 hb12.size
      have HX12 := Lib.hid (HX11.out.mono hb12 (Nat.lt_succ_self _))
      have HB12 := Lib.hid (HB11.out.trans (hb12.mono (Nat.le_succ _)))
      clear hown12 hb12 hX12 HX11 HO11 HB11 hs11 HN11
      go_wp2_with (at_builtin; refine wpList_append_B (by rfl) _ _ 24 rfl (w.heap.size + 1) 5 i0 Try.underlying24 hi hz0 hz1 hz2 _ X12 _ rfl (HO12.out.alloc _) rfl _ (zerosN 4) rfl (zlit4 w12) (by rw [HL12.out]; decide) (Nat.le_trans hs12 (by simp)) ?_)
      intro v13 w13 hown13 hb13
      obtain ⟨X13, hX13⟩ : ∃ X, X = X12 ++ zerosN 4 := ⟨_, rfl⟩
      have HO13 := Lib.hid (show w13.ownsRow (w.heap.size + 1) 5 1 v13 X13.length (bvs X13) from by rw [hX13]; simpa using hown13)
      have HL13 := Lib.hid (show X13.length = 32 from by rw [hX13, List.length_append, HL12.out, length_zerosN])
      have HE13 := Lib.hid hX13
      have hb13' : Below (w.heap.size + 1) w12 w13 := (((Below.refl _ _).alloc hs12 _).trans hb13)
      have hs13 : w.heap.size + 1 ≤ w13.heap.size := Nat.le_trans hs12 hb13'.size
      have HX13 := Lib.hid (HX12.out.mono hb13' (Nat.lt_succ_self _))
      have HB13 := Lib.hid (HB12.out.trans (hb13'.mono (Nat.le_succ _)))
      have HV13 := Lib.hid (HV.out.mono HB13.out (Nat.le_refl _))
      clear hown13 hb13 hb13' hX13 HX12 HO12 HB12 hs12
      obtain ⟨q0, q1, q2, q3⟩ := HX13.out
      go_wp2_with (at_builtin; refine wpList_append_B (by rfl) _ _ 24 rfl (w.heap.size + 1) 5 i0 Try.underlying24 hi hz0 hz1 hz2 _ X13 _ rfl HO13.out rfl _ l rfl HV13.out (by rw [HL13.out, HL.out]; omega) hs13 ?_)
      intro v14 w14 hown14 hb14
      obtain ⟨X14, hX14⟩ : ∃ X, X = X13 ++ l := ⟨_, rfl⟩
      have HL14 := Lib.hid (show X14.length = 32 + d from by rw [hX14, List.length_append, HL13.out, HL.out])
      have HO14 := Lib.hid (show w14.ownsRow (w.heap.size + 1) 5 1 v14 (32 + d) (bvs X14) from by rw [← HL14.out, hX14]; simpa using hown14)
      have HE14 := Lib.hid hX14
      have hs14 : w.heap.size + 1 ≤ w14.heap.size := Nat.le_trans hs13 hb14.size
      have HB14 := Lib.hid (HB13.out.trans (hb14.mono (Nat.le_succ _)))
      have HR := Lib.hid (show nbytes ⟨k, c, true, l⟩ = X14 ++ zerosN p from by rw [HNB.out, HE14.out, HE13.out, HE12.out, HPD.out, ← HL.out])
      clear hown14 hb14 hX14 HX13 HO13 HB13 hs13 HV13 q0 q1 q2 q3
      obtain ⟨x14, c14, rfl⟩ := ownsRow_slice HO14.out
      go_wp2_with fail
      have hpd : p = (8 - d % 8) % 8 := HPD.out
      have HPp := Lib.hid hpd
      clear hpd
      go_loopw [4] (fun b wr => ∃ (m : Nat) (y : Option Addr) (cy : Nat), 32 + d ≤ m ∧ m ≤ 32 + d + p ∧ b = .slice y m cy ∧ Hid (wr.ownsRow (w.heap.size + 1) 5 1 (.slice y m cy) m (bvs (X14 ++ zerosN (m - (32 + d))))) ∧ Below w.heap.size w wr ∧ w.heap.size + 1 ≤ wr.heap.size) (fun b _ => 32 + d + p - lenV b)
      case atStart => exact ⟨32 + d, x14, c14, by omega, by omega, rfl, Lib.hid (by simpa [zerosN] using HO14.out), HB14.out, hs14⟩
      case round =>
        obtain ⟨m, y, cy, hm1, hm2, rfl, hO, hbr, hsr⟩ := hrel
        have hml : m ≤ 5000 := by omega
        by_cases hlt : m < 32 + d + p
        · have hb : ((m : Int) % 8 != 0) = true := by
            have := HPp.out
            rw [bne_iff_ne]
            omega
          obtain ⟨X, hX⟩ : ∃ X, X = X14 ++ zerosN (m - (32 + d)) := ⟨_, rfl⟩
          have HXl := Lib.hid (show m = X.length from by rw [hX, List.length_append, HL14.out, length_zerosN]; omega)
          have HO := Lib.hid (show wr.ownsRow (w.heap.size + 1) 5 1 (.slice y m cy) m (bvs X) from by rw [hX]; exact hO.out)
          have HXX := Lib.hid (show X ++ zerosN 1 = X14 ++ zerosN (m + 1 - (32 + d)) from by rw [hX, List.append_assoc]; congr 1; unfold zerosN; rw [List.replicate_append_replicate]; congr 1; omega)
          clear hX hO
          go_wp2_with (at_builtin; refine wpList_append_B (by rfl) _ _ 24 rfl (w.heap.size + 1) 5 i0 Try.underlying24 hi hz0 hz1 hz2 _ X m rfl (HO.out.alloc _) HXl.out _ (zerosN 1) rfl (zlit1 wr) (by rw [← HXl.out]; simp [zerosN]; omega) (Nat.le_trans hsr (by simp)) ?_)
          intro v15 w15 hown15 hb15
          have HO15 := Lib.hid (show w15.ownsRow (w.heap.size + 1) 5 1 v15 (m + 1) (bvs (X14 ++ zerosN (m + 1 - (32 + d)))) from by rw [← HXX.out, HXl.out]; simpa [zerosN] using hown15)
          have hb15' : Below (w.heap.size + 1) wr w15 := ((Below.refl _ _).alloc hsr _).trans hb15
          have hs15 : w.heap.size + 1 ≤ w15.heap.size := Nat.le_trans hsr hb15'.size
          have HB15 := hbr.trans (hb15'.mono (Nat.le_succ _))
          obtain ⟨y', c', rfl⟩ := ownsRow_slice HO15.out
          clear hown15 hb15 hb15' HO hb
          go_wp2
          go_roundw
          case rel => exact ⟨m + 1, y', c', by omega, by omega, rfl, HO15.out, HB15, hs15⟩
          case measure => simp [lenV]; omega
        · obtain rfl : m = 32 + d + p := by omega
          have hb : ((((32 + d + p : Nat)) : Int) % 8 != 0) = false := by
            have := HPp.out
            rw [bne_eq_false_iff_eq]
            omega
          have HO16 := Lib.hid (show wr.ownsRow w.heap.size 5 1 (.slice y (32 + d + p) cy) (nbytes ⟨k, c, true, l⟩).length (bvs (nbytes ⟨k, c, true, l⟩)) from by
            rw [HR.out]
            have h := ownsRow_base hO.out (Nat.le_succ w.heap.size)
            rw [show 32 + d + p - (32 + d) = p from by omega] at h
            rw [show (X14 ++ zerosN p).length = 32 + d + p from by rw [List.length_append, HL14.out, length_zerosN]]
            exact h)
          obtain ⟨M, hM⟩ : ∃ M, M = 32 + d + p := ⟨_, rfl⟩
          rw [← hM] at hb HO16
          simp only [← hM]
          clear hM
          go_wp2
          go_ret
          exact ⟨_, rfl, HO16.out, hbr⟩

end Go.Proofs.Yteibolajnjdpmaa
