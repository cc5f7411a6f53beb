/- Package needle by contracts: the bytes of a needle. -/
import Derived.Test.YtallmcminlnnaaaNeedle
import Derived.Test.YtallmcminlnnaaaZeros
set_option linter.unusedVariables false
set_option linter.unusedSimpArgs false
namespace Go.Proofs.Ytallmcminlnnaaa
open Go.RowKit Go.Cor

theorem flag_great (g : Bool) : flagN g ≤ great ((4 : Nat) : Int) := by cases g <;> decide
theorem front_of {k c d : Nat} {g : Bool} {l : List UInt8} (h : l.length = d) : front ⟨k, c, g, l⟩ = le 1313162572 4 ++ le (flagN g) 4 ++ le k 8 ++ le c 4 ++ le d 4 := by
  unfold front
  rw [h]
theorem front_fin {w : World} {B : Nat} {U : TypeId} {v : Value} {F : List UInt8} {k c d f : Nat} (e : F = le 1313162572 4 ++ le f 4 ++ le k 8 ++ le c 4 ++ le d 4)
    (h : w.ownsRow (B + 1) U 1 v ((le 1313162572 4).length + ((le f 4).length + ((le k 8).length + ((le c 4).length + (le d 4).length)))) (bvs (le 1313162572 4 ++ (le f 4 ++ (le k 8 ++ (le c 4 ++ le d 4)))))) :
    w.ownsRow B U 1 v 24 (bvs F) := by
  have h' := ownsRow_base h (Nat.le_succ B)
  simp only [length_le] at h'
  rw [e]
  simpa only [List.append_assoc] using h'

set_option maxHeartbeats 1000000 in
theorem summed_any (n : Ndl) (v : Value) (w : World) (hv : IsB w v n.data) (hf : n.fits) (hd : n.data.length ≤ 4096) :
    Calls Try.prog 44 #[nval n v] w fun e w' => ∃ v', e = .returned v' ∧ w'.ownsRow w.heap.size 5 1 v' 24 (bvs (front n)) ∧ Below w.heap.size w w' := by
  obtain ⟨i0, hi, hz0, hz1, hz2⟩ := info_parts Try.infoU8
  obtain ⟨k, c, g, l⟩ := n
  obtain ⟨hk, hc⟩ := hf
  obtain ⟨d, hl⟩ : ∃ d : Nat, l.length = d := ⟨_, rfl⟩
  obtain ⟨x, cap, rfl, hlc, hcm⟩ := hv.at_len hl
  have HF := Lib.hid (front_of (k := k) (c := c) (g := g) hl)
  have hd' : d ≤ 4096 := by rw [← hl]; exact hd
  have HK8 := Lib.hid (show k ≤ great ((8 : Nat) : Int) from Nat.le_of_lt_succ hk)
  have HC4 := Lib.hid (show c ≤ great ((4 : Nat) : Int) from Nat.le_of_lt_succ hc)
  have HD4 := Lib.hid (show d ≤ great ((4 : Nat) : Int) from Nat.le_trans hd' (by decide))
  have HG := Lib.hid (flag_great g)
  have hc' : c < 4294967296 := hc
  clear hv hl hd hk hc
  cases g
  · go_enter Try.func44, Try.ntmps44
    go_wp2_with fail
    refine (num_any 1313162572 4 _ (.inr (.inr (.inl rfl))) (by decide)).mono ?_
    rintro e w1 ⟨v1, rfl, hown1, hb1⟩
    have hs1 : w.heap.size + 1 ≤ w1.heap.size := Nat.le_trans (by simp) hb1.size
    have HX1 := Lib.hid ((Boxed.new w _ _ 27).mono hb1 (by simp) : Boxed w1 w.heap.size ⟨k, c, false, l⟩ (.slice x d cap))
    have HB1 := Lib.hid ((((Below.refl w.heap.size w).alloc (Nat.le_refl _) _).trans (hb1.mono (by simp))) : Below w.heap.size w w1)
    have HO1 := Lib.hid (ownsRow_base hown1 (show w.heap.size + 1 ≤ _ from by simp))
    clear hown1 hb1
    go_wp2_with fail
    refine (num_any (flagN false) 4 _ (.inr (.inr (.inl rfl))) HG.out).mono ?_
    rintro e w2 ⟨v2, rfl, hown2, hb2⟩
    have hs2 : w.heap.size + 1 ≤ w2.heap.size := Nat.le_trans hs1 hb2.size
    have HX2 := Lib.hid (HX1.out.mono hb2 hs1)
    have HB2 := Lib.hid (HB1.out.trans (hb2.mono (Nat.le_of_succ_le hs1)))
    have HO2 := Lib.hid (ownsRow_below HO1.out hb2 (Nat.le_refl _))
    have HN := Lib.hid (IsB.own hown2 (length_le _ _).symm)
    clear hown2 hb2 HX1 HO1 HB1 hs1
    go_wp2_with (at_builtin; refine wpList_append_B (by rfl) _ _ 22 rfl (w.heap.size + 1) 5 i0 Try.underlying22 hi hz0 hz1 hz2 _ (le 1313162572 4) _ rfl HO2.out ((length_le _ _).symm) _ (le (flagN false) 4) rfl (HN.out) (by simp [length_le]) hs2 ?_)
    intro v3 w3 hown3 hb3
    have hs3 : w.heap.size + 1 ≤ w3.heap.size := Nat.le_trans hs2 hb3.size
    have HX3 := Lib.hid (HX2.out.mono hb3 (Nat.lt_succ_self _))
    have HB3 := Lib.hid (HB2.out.trans (hb3.mono (Nat.le_succ _)))
    have HO3 := Lib.hid hown3
    clear hown3 hb3 HX2 HO2 HB2 hs2
    obtain ⟨q0, q1, q2, q3⟩ := HX3.out
    go_wp2_with fail
    refine (num_any k 8 _ (.inr (.inr (.inr rfl))) HK8.out).mono ?_
    rintro e w4 ⟨v4, rfl, hown4, hb4⟩
    have hs4 : w.heap.size + 1 ≤ w4.heap.size := Nat.le_trans hs3 hb4.size
    have HX4 := Lib.hid (HX3.out.mono hb4 hs3)
    have HB4 := Lib.hid (HB3.out.trans (hb4.mono (Nat.le_of_succ_le hs3)))
    have HO4 := Lib.hid (ownsRow_below HO3.out hb4 (Nat.le_refl _))
    have HN := Lib.hid (IsB.own hown4 (length_le _ _).symm)
    clear hown4 hb4 HX3 HO3 HB3 hs3
    clear q0 q1 q2 q3
    go_wp2_with (at_builtin; refine wpList_append_B (by rfl) _ _ 22 rfl (w.heap.size + 1) 5 i0 Try.underlying22 hi hz0 hz1 hz2 _ ((le 1313162572 4) ++ (le (flagN false) 4)) _ rfl HO4.out (rfl) _ (le k 8) rfl (HN.out) (by simp [length_le]) hs4 ?_)
    intro v5 w5 hown5 hb5
    have hs5 : w.heap.size + 1 ≤ w5.heap.size := Nat.le_trans hs4 hb5.size
    have HX5 := Lib.hid (HX4.out.mono hb5 (Nat.lt_succ_self _))
    have HB5 := Lib.hid (HB4.out.trans (hb5.mono (Nat.le_succ _)))
    have HO5 := Lib.hid hown5
    clear hown5 hb5 HX4 HO4 HB4 hs4
    obtain ⟨q0, q1, q2, q3⟩ := HX5.out
    go_wp2_with fail
    refine (num_any c 4 _ (.inr (.inr (.inl rfl))) HC4.out).mono ?_
    rintro e w6 ⟨v6, rfl, hown6, hb6⟩
    have hs6 : w.heap.size + 1 ≤ w6.heap.size := Nat.le_trans hs5 hb6.size
    have HX6 := Lib.hid (HX5.out.mono hb6 hs5)
    have HB6 := Lib.hid (HB5.out.trans (hb6.mono (Nat.le_of_succ_le hs5)))
    have HO6 := Lib.hid (ownsRow_below HO5.out hb6 (Nat.le_refl _))
    have HN := Lib.hid (IsB.own hown6 (length_le _ _).symm)
    clear hown6 hb6 HX5 HO5 HB5 hs5
    clear q0 q1 q2 q3
    go_wp2_with (at_builtin; refine wpList_append_B (by rfl) _ _ 22 rfl (w.heap.size + 1) 5 i0 Try.underlying22 hi hz0 hz1 hz2 _ (((le 1313162572 4) ++ (le (flagN false) 4)) ++ (le k 8)) _ rfl HO6.out (rfl) _ (le c 4) rfl (HN.out) (by simp [length_le]) hs6 ?_)
    intro v7 w7 hown7 hb7
    have hs7 : w.heap.size + 1 ≤ w7.heap.size := Nat.le_trans hs6 hb7.size
    have HX7 := Lib.hid (HX6.out.mono hb7 (Nat.lt_succ_self _))
    have HB7 := Lib.hid (HB6.out.trans (hb7.mono (Nat.le_succ _)))
    have HO7 := Lib.hid hown7
    clear hown7 hb7 HX6 HO6 HB6 hs6
    obtain ⟨q0, q1, q2, q3⟩ := HX7.out
    go_wp2_with fail
    refine (num_any d 4 _ (.inr (.inr (.inl rfl))) HD4.out).mono ?_
    rintro e w8 ⟨v8, rfl, hown8, hb8⟩
    have hs8 : w.heap.size + 1 ≤ w8.heap.size := Nat.le_trans hs7 hb8.size
    have HX8 := Lib.hid (HX7.out.mono hb8 hs7)
    have HB8 := Lib.hid (HB7.out.trans (hb8.mono (Nat.le_of_succ_le hs7)))
    have HO8 := Lib.hid (ownsRow_below HO7.out hb8 (Nat.le_refl _))
    have HN := Lib.hid (IsB.own hown8 (length_le _ _).symm)
    clear hown8 hb8 HX7 HO7 HB7 hs7
    clear q0 q1 q2 q3
    go_wp2_with (at_builtin; refine wpList_append_B (by rfl) _ _ 22 rfl (w.heap.size + 1) 5 i0 Try.underlying22 hi hz0 hz1 hz2 _ ((((le 1313162572 4) ++ (le (flagN false) 4)) ++ (le k 8)) ++ (le c 4)) _ rfl HO8.out (rfl) _ (le d 4) rfl (HN.out) (by simp [length_le]) hs8 ?_)
    intro v9 w9 hown9 hb9
    have hs9 : w.heap.size + 1 ≤ w9.heap.size := Nat.le_trans hs8 hb9.size
    have HX9 := Lib.hid (HX8.out.mono hb9 (Nat.lt_succ_self _))
    have HB9 := Lib.hid (HB8.out.trans (hb9.mono (Nat.le_succ _)))
    have HO9 := Lib.hid hown9
    clear hown9 hb9 HX8 HO8 HB8 hs8
    go_wp2
    go_ret
    exact ⟨_, rfl, front_fin HF.out HO9.out, HB9.out⟩
  · go_enter Try.func44, Try.ntmps44
    go_wp2_with fail
    refine (num_any 1313162572 4 _ (.inr (.inr (.inl rfl))) (by decide)).mono ?_
    rintro e w1 ⟨v1, rfl, hown1, hb1⟩
    have hs1 : w.heap.size + 1 ≤ w1.heap.size := Nat.le_trans (by simp) hb1.size
    have HX1 := Lib.hid ((Boxed.new w _ _ 27).mono hb1 (by simp) : Boxed w1 w.heap.size ⟨k, c, true, l⟩ (.slice x d cap))
    have HB1 := Lib.hid ((((Below.refl w.heap.size w).alloc (Nat.le_refl _) _).trans (hb1.mono (by simp))) : Below w.heap.size w w1)
    have HO1 := Lib.hid (ownsRow_base hown1 (show w.heap.size + 1 ≤ _ from by simp))
    clear hown1 hb1
    go_wp2_with fail
    refine (num_any (flagN true) 4 _ (.inr (.inr (.inl rfl))) HG.out).mono ?_
    rintro e w2 ⟨v2, rfl, hown2, hb2⟩
    have hs2 : w.heap.size + 1 ≤ w2.heap.size := Nat.le_trans hs1 hb2.size
    have HX2 := Lib.hid (HX1.out.mono hb2 hs1)
    have HB2 := Lib.hid (HB1.out.trans (hb2.mono (Nat.le_of_succ_le hs1)))
    have HO2 := Lib.hid (ownsRow_below HO1.out hb2 (Nat.le_refl _))
    have HN := Lib.hid (IsB.own hown2 (length_le _ _).symm)
    clear hown2 hb2 HX1 HO1 HB1 hs1
    go_wp2_with (at_builtin; refine wpList_append_B (by rfl) _ _ 22 rfl (w.heap.size + 1) 5 i0 Try.underlying22 hi hz0 hz1 hz2 _ (le 1313162572 4) _ rfl HO2.out ((length_le _ _).symm) _ (le (flagN true) 4) rfl (HN.out) (by simp [length_le]) hs2 ?_)
    intro v3 w3 hown3 hb3
    have hs3 : w.heap.size + 1 ≤ w3.heap.size := Nat.le_trans hs2 hb3.size
    have HX3 := Lib.hid (HX2.out.mono hb3 (Nat.lt_succ_self _))
    have HB3 := Lib.hid (HB2.out.trans (hb3.mono (Nat.le_succ _)))
    have HO3 := Lib.hid hown3
    clear hown3 hb3 HX2 HO2 HB2 hs2
    obtain ⟨q0, q1, q2, q3⟩ := HX3.out
    go_wp2_with fail
    refine (num_any k 8 _ (.inr (.inr (.inr rfl))) HK8.out).mono ?_
    rintro e w4 ⟨v4, rfl, hown4, hb4⟩
    have hs4 : w.heap.size + 1 ≤ w4.heap.size := Nat.le_trans hs3 hb4.size
    have HX4 := Lib.hid (HX3.out.mono hb4 hs3)
    have HB4 := Lib.hid (HB3.out.trans (hb4.mono (Nat.le_of_succ_le hs3)))
    have HO4 := Lib.hid (ownsRow_below HO3.out hb4 (Nat.le_refl _))
    have HN := Lib.hid (IsB.own hown4 (length_le _ _).symm)
    clear hown4 hb4 HX3 HO3 HB3 hs3
    clear q0 q1 q2 q3
    go_wp2_with (at_builtin; refine wpList_append_B (by rfl) _ _ 22 rfl (w.heap.size + 1) 5 i0 Try.underlying22 hi hz0 hz1 hz2 _ ((le 1313162572 4) ++ (le (flagN true) 4)) _ rfl HO4.out (rfl) _ (le k 8) rfl (HN.out) (by simp [length_le]) hs4 ?_)
    intro v5 w5 hown5 hb5
    have hs5 : w.heap.size + 1 ≤ w5.heap.size := Nat.le_trans hs4 hb5.size
    have HX5 := Lib.hid (HX4.out.mono hb5 (Nat.lt_succ_self _))
    have HB5 := Lib.hid (HB4.out.trans (hb5.mono (Nat.le_succ _)))
    have HO5 := Lib.hid hown5
    clear hown5 hb5 HX4 HO4 HB4 hs4
    obtain ⟨q0, q1, q2, q3⟩ := HX5.out
    go_wp2_with fail
    refine (num_any c 4 _ (.inr (.inr (.inl rfl))) HC4.out).mono ?_
    rintro e w6 ⟨v6, rfl, hown6, hb6⟩
    have hs6 : w.heap.size + 1 ≤ w6.heap.size := Nat.le_trans hs5 hb6.size
    have HX6 := Lib.hid (HX5.out.mono hb6 hs5)
    have HB6 := Lib.hid (HB5.out.trans (hb6.mono (Nat.le_of_succ_le hs5)))
    have HO6 := Lib.hid (ownsRow_below HO5.out hb6 (Nat.le_refl _))
    have HN := Lib.hid (IsB.own hown6 (length_le _ _).symm)
    clear hown6 hb6 HX5 HO5 HB5 hs5
    clear q0 q1 q2 q3
    go_wp2_with (at_builtin; refine wpList_append_B (by rfl) _ _ 22 rfl (w.heap.size + 1) 5 i0 Try.underlying22 hi hz0 hz1 hz2 _ (((le 1313162572 4) ++ (le (flagN true) 4)) ++ (le k 8)) _ rfl HO6.out (rfl) _ (le c 4) rfl (HN.out) (by simp [length_le]) hs6 ?_)
    intro v7 w7 hown7 hb7
    have hs7 : w.heap.size + 1 ≤ w7.heap.size := Nat.le_trans hs6 hb7.size
    have HX7 := Lib.hid (HX6.out.mono hb7 (Nat.lt_succ_self _))
    have HB7 := Lib.hid (HB6.out.trans (hb7.mono (Nat.le_succ _)))
    have HO7 := Lib.hid hown7
    clear hown7 hb7 HX6 HO6 HB6 hs6
    obtain ⟨q0, q1, q2, q3⟩ := HX7.out
    go_wp2_with fail
    refine (num_any d 4 _ (.inr (.inr (.inl rfl))) HD4.out).mono ?_
    rintro e w8 ⟨v8, rfl, hown8, hb8⟩
    have hs8 : w.heap.size + 1 ≤ w8.heap.size := Nat.le_trans hs7 hb8.size
    have HX8 := Lib.hid (HX7.out.mono hb8 hs7)
    have HB8 := Lib.hid (HB7.out.trans (hb8.mono (Nat.le_of_succ_le hs7)))
    have HO8 := Lib.hid (ownsRow_below HO7.out hb8 (Nat.le_refl _))
    have HN := Lib.hid (IsB.own hown8 (length_le _ _).symm)
    clear hown8 hb8 HX7 HO7 HB7 hs7
    clear q0 q1 q2 q3
    go_wp2_with (at_builtin; refine wpList_append_B (by rfl) _ _ 22 rfl (w.heap.size + 1) 5 i0 Try.underlying22 hi hz0 hz1 hz2 _ ((((le 1313162572 4) ++ (le (flagN true) 4)) ++ (le k 8)) ++ (le c 4)) _ rfl HO8.out (rfl) _ (le d 4) rfl (HN.out) (by simp [length_le]) hs8 ?_)
    intro v9 w9 hown9 hb9
    have hs9 : w.heap.size + 1 ≤ w9.heap.size := Nat.le_trans hs8 hb9.size
    have HX9 := Lib.hid (HX8.out.mono hb9 (Nat.lt_succ_self _))
    have HB9 := Lib.hid (HB8.out.trans (hb9.mono (Nat.le_succ _)))
    have HO9 := Lib.hid hown9
    clear hown9 hb9 HX8 HO8 HB8 hs8
    go_wp2
    go_ret
    exact ⟨_, rfl, front_fin HF.out HO9.out, HB9.out⟩


theorem put_badN (n : Ndl) (v : Value) (w : World) (hv : IsB w v n.data) (h : ncheck n ≠ 0) :
    Calls Try.prog 30 #[nval n v] w fun e w' => e = .returned (.tuple #[.slice none 0 0, err (ncheck n : Nat)]) ∧ Below w.heap.size w w' := by
  have HE := Lib.hid (cerr_pos h)
  have HV := Lib.hid hv
  obtain ⟨q, hq⟩ : ∃ q : Nat, ncheck n = q := ⟨_, rfl⟩
  have HQ := Lib.hid hq
  obtain ⟨k, c, g, l⟩ := n
  rw [hq] at HE ⊢
  clear hv h hq
  go_enter Try.func30, Try.ntmps30
  go_wp2_with fail
  refine (check_any ⟨k, c, g, l⟩ _ _ (HV.out.mono ((Below.refl _ _).alloc (Nat.le_refl _) _) (Nat.le_refl _))).mono ?_
  rintro e w1 ⟨rfl, hb1⟩
  rw [HQ.out, HE.out]
  go_wp2
  go_ret2
  exact ⟨rfl, ((Below.refl w.heap.size w).alloc (Nat.le_refl _) _).trans (hb1.mono (by simp))⟩

theorem nbytes_fin {w : World} {B N : Nat} {U : TypeId} {v : Value} {n : Ndl} (h : w.ownsRow (B + 1) U 1 v N (bvs (nbytes n))) (e : N = (nbytes n).length) :
    w.ownsRow B U 1 v (nbytes n).length (bvs (nbytes n)) := by
  subst e
  exact ownsRow_base h (Nat.le_succ B)
theorem ownsB_fold {w : World} {B : Nat} {U : TypeId} {v : Value} {X Y : List UInt8} {Z : List UInt8} (e : Z = X ++ Y) (h : w.ownsRow B U 1 v (X.length + Y.length) (bvs X ++ bvs Y)) : w.ownsRow B U 1 v Z.length (bvs Z) := by
  subst e
  rw [List.length_append, bvs_append]
  exact h

set_option maxHeartbeats 2000000 in
theorem put_okN (n : Ndl) (v : Value) (w : World) (hv : IsB w v n.data) (hf : n.fits) (h : ncheck n = 0) :
    Calls Try.prog 30 #[nval n v] w fun e w' => ∃ v', e = .returned (.tuple #[v', .nilIface]) ∧ w'.ownsRow w.heap.size 5 1 v' (nbytes n).length (bvs (nbytes n)) ∧ Below w.heap.size w w' := by
  obtain ⟨i0, hi, hz0, hz1, hz2⟩ := info_parts Try.infoU8
  have hd := (ncheck_ok h).1
  obtain ⟨F, hF⟩ : ∃ F, F = front n := ⟨_, rfl⟩
  obtain ⟨s, hs⟩ : ∃ s, s = crc (F ++ n.data) := ⟨_, rfl⟩
  have hs4 : s < 4294967296 := by rw [hs]; exact crc_lt _
  have HS4 := Lib.hid (show s ≤ great ((4 : Nat) : Int) from Nat.le_of_lt_succ hs4)
  have hNB : nbytes n = F ++ le s 4 ++ zerosN 4 ++ n.data ++ zerosN (padn n.data.length) := by rw [hs, hF]; rfl
  have hFl : F.length = 24 := by rw [hF]; exact length_front n
  have HFl := Lib.hid hFl
  have HF := Lib.hid hF
  have HC := Lib.hid h
  have HFi := Lib.hid hf
  obtain ⟨k, c, g, l⟩ := n
  have HS := Lib.hid (show s = crc (F ++ l) from hs)
  have HNB := Lib.hid (show nbytes ⟨k, c, g, l⟩ = F ++ le s 4 ++ zerosN 4 ++ l ++ zerosN (padn l.length) from hNB)
  obtain ⟨d, hl⟩ : ∃ d : Nat, l.length = d := ⟨_, rfl⟩
  have HL := Lib.hid hl
  have HV := Lib.hid hv
  obtain ⟨x, cap, rfl, hlc, hcm⟩ := hv.at_len hl
  have hd' : d ≤ 4096 := by rw [← hl]; exact hd
  have HZ := Lib.hid (nsize_nat hd')
  have HP := Lib.hid (pad_padn d)
  have hp8 := padn_lt d
  obtain ⟨p, hp⟩ : ∃ p, p = padn d := ⟨_, rfl⟩
  rw [← hp] at HZ HP hp8
  have HPD := Lib.hid hp
  obtain ⟨S, hS⟩ : ∃ S : Nat, S = 32 + d + p := ⟨_, rfl⟩
  rw [← hS] at HZ
  have hS' : S ≤ 5000 := by omega
  have hmk : ∀ wx : World, (Instr.makeSlice 22 (.int .i64 0) (.int .i64 (S : Int))).run Try.prog wx = .ok (.slice (some ⟨wx.heap.size, 0, none⟩) 0 S) (wx.alloc (.cells (madeCells #[.int .u8 0] S) 5)) := fun wx => by
    have := run_make (P := Try.prog) wx 22 5 i0 (.int .u8 0) Try.underlying22 hi hz0 .i64 .i64 0 (S : Int) (by omega) (by omega) (by rw [hz2]; omega) (by omega)
    rw [this, hz1]
    simp [Value.cells]
  clear hv hd hF hs hl hf h hFl hp hS hNB
  go_enter Try.func30, Try.ntmps30
  go_wp2_with fail
  refine (check_any ⟨k, c, g, l⟩ _ _ (HV.out.mono ((Below.refl _ _).alloc (Nat.le_refl _) _) (Nat.le_refl _))).mono ?_
  rintro e w1 ⟨rfl, hb1⟩
  rw [HC.out, cerr_0]
  have hs1 : w.heap.size + 1 ≤ w1.heap.size := Nat.le_trans (by simp) hb1.size
  have HX1 := Lib.hid ((Boxed.new w _ _ 27).mono hb1 (by simp) : Boxed w1 w.heap.size ⟨k, c, g, l⟩ (.slice x d cap))
  have HB1 := Lib.hid ((((Below.refl w.heap.size w).alloc (Nat.le_refl _) _).trans (hb1.mono (by simp))) : Below w.heap.size w w1)
  have HV1 := Lib.hid (HV.out.mono HB1.out (Nat.le_refl _))
  clear hb1
  obtain ⟨q0, q1, q2, q3⟩ := HX1.out
  go_wp2_with fail
  refine (summed_any ⟨k, c, g, l⟩ _ _ HV1.out HFi.out (by show l.length ≤ 4096; rw [HL.out]; exact hd')).mono ?_
  rintro e w2 ⟨v2, rfl, hown2, hb2⟩
  have hs2 : w.heap.size + 1 ≤ w2.heap.size := Nat.le_trans hs1 hb2.size
  have HX2 := Lib.hid (HX1.out.mono hb2 hs1)
  have HB2 := Lib.hid (HB1.out.trans (hb2.mono (Nat.le_of_succ_le hs1)))
  have HV2 := Lib.hid (HV.out.mono HB2.out (Nat.le_refl _))
  have HF2 := Lib.hid (show IsB w2 v2 F from by rw [HF.out]; exact IsB.own hown2 (length_front _).symm)
  clear q0 q1 q2 q3 hown2 hb2 HX1 HB1 HV1 hs1
  obtain ⟨q0, q1, q2, q3⟩ := HX2.out
  go_wp2_with fail
  refine (size_any (d : Int) _ (by omega) (by omega)).mono ?_
  rintro e w' ⟨rfl, rfl⟩
  rw [HZ.out]
  have hb3 : Below w2.heap.size w2 (w2.alloc (.cells (madeCells #[.int .u8 0] S) 5)) := (Below.refl _ _).alloc (Nat.le_refl _) _
  have HS3 := Lib.hid hb3.size
  have HO3 := Lib.hid (World.ownsRow_made (base := w2.heap.size) (e := 5) (size := 1) w2 (madeCells #[.int .u8 0] S) S (Nat.le_refl _) (by unfold maxLen; omega) (by simp [size_madeCells]))
  have HB3 := Lib.hid hb3
  have HF3 := Lib.hid (HF2.out.mono hb3 (Nat.le_refl _))
  clear hb3 q0 q1 q2 q3
  go_wp2_with (at_builtin; refine wpList_append_B (by rfl) _ _ 22 rfl w2.heap.size 5 i0 Try.underlying22 hi hz0 hz1 hz2 _ [] _ rfl HO3.out rfl _ F rfl HF3.out (by rw [HFl.out]; decide) HS3.out ?_)
  intro v4 w4 hown4 hb4
  have HO4 := Lib.hid (show w4.ownsRow w2.heap.size 5 1 v4 F.length (bvs F) from by simpa using hown4)
  have HB4 := Lib.hid (HB3.out.trans hb4)
  clear hown4 hb4 HB3 HS3 HO3 HF3
  obtain ⟨q0, q1, q2, q3⟩ := HX2.out.mono HB4.out hs2
  go_wp2_with fail
  refine (sumOf_any _ _ F l _ (HF2.out.mono HB4.out (Nat.le_refl _)) (HV2.out.mono HB4.out (Nat.le_refl _)) (by rw [HFl.out]; decide) (by rw [HL.out]; omega)).mono ?_
  rintro e w' ⟨rfl, rfl⟩
  rw [← HS.out]
  go_wp2_with fail
  refine (num_any s 4 _ (.inr (.inr (.inl rfl))) HS4.out).mono ?_
  rintro e w5 ⟨v5, rfl, hown5, hb5⟩
  have HN5 := Lib.hid (IsB.own hown5 (length_le _ _).symm)
  have HO5 := Lib.hid (ownsRow_below HO4.out hb5 (Nat.le_refl _))
  have HB5 := Lib.hid (HB4.out.trans (hb5.mono HB4.out.size))
  have HS5 := Lib.hid HB5.out.size
  clear q0 q1 q2 q3 hown5 hb5 HO4 HB4
  go_wp2_with (at_builtin; refine wpList_append_B (by rfl) _ _ 22 rfl w2.heap.size 5 i0 Try.underlying22 hi hz0 hz1 hz2 _ F _ rfl HO5.out rfl _ (le s 4) rfl HN5.out (by rw [HFl.out, length_le]; decide) HS5.out ?_)
  intro v6 w6 hown6 hb6
  obtain ⟨X6, hX6⟩ : ∃ X, X = F ++ le s 4 := ⟨_, rfl⟩
  have HO6 := Lib.hid (show w6.ownsRow w2.heap.size 5 1 v6 X6.length (bvs X6) from by rw [hX6]; simpa using hown6)
  have HL6 := Lib.hid (show X6.length = 28 from by rw [hX6, List.length_append, HFl.out, length_le])
  have HX6 := Lib.hid hX6
  have HB6 := Lib.hid (HB5.out.trans hb6)
  have HS6 := Lib.hid HB6.out.size
  clear hown6 hb6 hX6 HO5 HB5 HN5 HS5
  go_wp2_with (at_builtin; refine wpList_append_zeros (by rfl) _ _ 22 3 rfl w2.heap.size 5 i0 Try.underlying22 Try.underlying3 hi hz0 hz1 hz2 _ X6 _ rfl HO6.out rfl 4 rfl (by rw [HL6.out]; decide) HS6.out ?_)
  intro v7 w7 hown7 hb7
  obtain ⟨X7, hX7⟩ : ∃ X, X = X6 ++ zerosN 4 := ⟨_, rfl⟩
  have HO7 := Lib.hid (show w7.ownsRow w2.heap.size 5 1 v7 X7.length (bvs X7) from by rw [hX7]; simpa using hown7)
  have HL7 := Lib.hid (show X7.length = 32 from by rw [hX7, List.length_append, HL6.out, length_zerosN])
  have HX7 := Lib.hid hX7
  have HB7 := Lib.hid (HB6.out.trans hb7)
  have HS7 := Lib.hid HB7.out.size
  have HV7 := Lib.hid (HV2.out.mono HB7.out (Nat.le_refl _))
  clear hown7 hb7 hX7 HO6 HB6 HS6 HL6
  obtain ⟨q0, q1, q2, q3⟩ := HX2.out.mono HB7.out hs2
  go_wp2_with (at_builtin; refine wpList_append_B (by rfl) _ _ 22 rfl w2.heap.size 5 i0 Try.underlying22 hi hz0 hz1 hz2 _ X7 _ rfl HO7.out rfl _ l rfl HV7.out (by rw [HL7.out, HL.out]; omega) HS7.out ?_)
  intro v8 w8 hown8 hb8
  obtain ⟨X8, hX8⟩ : ∃ X, X = X7 ++ l := ⟨_, rfl⟩
  have HO8 := Lib.hid (show w8.ownsRow w2.heap.size 5 1 v8 X8.length (bvs X8) from by rw [hX8]; simpa using hown8)
  have HL8 := Lib.hid (show X8.length = 32 + d from by rw [hX8, List.length_append, HL7.out, HL.out])
  have HX8 := Lib.hid hX8
  have HB8 := Lib.hid (HB7.out.trans hb8)
  have HS8 := Lib.hid HB8.out.size
  clear hown8 hb8 hX8 HO7 HB7 HS7 HL7 HV7 q0 q1 q2 q3
  obtain ⟨q0, q1, q2, q3⟩ := HX2.out.mono HB8.out hs2
  go_wp2_with fail
  refine (pad_any (d : Int) _ (by omega) (by omega)).mono ?_
  rintro e w' ⟨rfl, rfl⟩
  rw [HP.out]
  go_wp2_with (at_builtin; refine wpList_append_zeros (by rfl) _ _ 22 3 rfl w2.heap.size 5 i0 Try.underlying22 Try.underlying3 hi hz0 hz1 hz2 _ X8 _ rfl HO8.out rfl p rfl (by rw [HL8.out]; omega) HS8.out ?_)
  intro v9 w9 hown9 hb9
  have HR := Lib.hid (show nbytes ⟨k, c, g, l⟩ = X8 ++ zerosN p from by rw [HNB.out, HX8.out, HX7.out, HX6.out, HPD.out, ← HL.out])
  have HO9 := Lib.hid (show w9.ownsRow w.heap.size 5 1 v9 (nbytes ⟨k, c, g, l⟩).length (bvs (nbytes ⟨k, c, g, l⟩)) from by
    rw [HR.out]
    exact ownsRow_base (show w9.ownsRow w2.heap.size 5 1 v9 (X8 ++ zerosN p).length (bvs (X8 ++ zerosN p)) from by simpa using hown9) (Nat.le_of_succ_le hs2))
  have HB9 := Lib.hid (HB2.out.trans ((HB8.out.trans hb9).mono (Nat.le_of_succ_le hs2)))
  clear hown9 hb9
  go_wp2
  go_ret2
  exact ⟨_, rfl, HO9.out, HB9.out⟩

end Go.Proofs.Ytallmcminlnnaaa
