/- Needleb, Needlec, Needled, Needlee, Vol, Vold. -/
import Derived.Test.YtoblbipkkdiddaaGreatDoorM6
import Derived.Outline
import Derived.Deep.CutRange
import Derived.Test.YtoblbipkkdiddaaGreatDoorM5
set_option linter.unusedVariables false
set_option linter.unusedSimpArgs false

section
namespace Go.Proofs.YtoblbipkkdiddaaGreatDoor.Nd
open Go.RowKit Go.Cor

theorem flag_great (g : Bool) : flagN g ≤ great ((4 : Nat) : Int) := by cases g <;> decide
theorem front_of {k c d : Nat} {g : Bool} {l : List UInt8} (h : l.length = d) : front ⟨k, c, g, l⟩ = le 1313162572 4 ++ le (flagN g) 4 ++ le k 8 ++ le c 4 ++ le d 4 := by
  unfold front
  rw [h]
theorem front_fin {w : World} {B : Nat} {U : TypeId} {v : Value} {F : List UInt8} {k c d f : Nat} (e : F = le 1313162572 4 ++ le f 4 ++ le k 8 ++ le c 4 ++ le d 4)
    (h : w.ownsRow (B + 1) U 1 v ((le 1313162572 4).length + ((le f 4).length + ((le k 8).length + ((le c 4).length + (le d 4).length)))) (bvs (le 1313162572 4 ++ (le f 4 ++ (le k 8 ++ (le c 4 ++ le d 4)))))) :
    w.ownsRow B U 1 v 24 (bvs F) := by
  have h' := ownsRow_base h (Nat.le_succ B)
  simp only [length_le] at h'
  rw [e]
  simpa only [List.append_assoc] using h'

set_option maxHeartbeats 1000000 in
theorem summed_any (n : Ndl) (v : Value) (w : World) (hv : IsB w v n.data) (hf : n.fits) (hd : n.data.length ≤ 4096) :
    Calls Tryz.prog 105 #[nval n v] w fun e w' => ∃ v', e = .returned v' ∧ w'.ownsRow w.heap.size 5 1 v' 24 (bvs (front n)) ∧ Below w.heap.size w w' := by
  obtain ⟨i0, hi, hz0, hz1, hz2⟩ := info_parts Tryz.infoU8
  obtain ⟨k, c, g, l⟩ := n
  obtain ⟨hk, hc⟩ := hf
  obtain ⟨d, hl⟩ : ∃ d : Nat, l.length = d := ⟨_, rfl⟩
  obtain ⟨x, cap, rfl, hlc, hcm⟩ := hv.at_len hl
  have HF := Lib.hid (front_of (k := k) (c := c) (g := g) hl)
  have hd' : d ≤ 4096 := by rw [← hl]; exact hd
  have HK8 := Lib.hid (show k ≤ great ((8 : Nat) : Int) from Nat.le_of_lt_succ hk)
  have HC4 := Lib.hid (show c ≤ great ((4 : Nat) : Int) from Nat.le_of_lt_succ hc)
  have HD4 := Lib.hid (show d ≤ great ((4 : Nat) : Int) from Nat.le_trans hd' (by decide))
  have HG := Lib.hid (flag_great g)
  have hc' : c < 4294967296 := hc
  clear hv hl hd hk hc
  cases g
  · go_enter Tryz.func105, Tryz.ntmps105
    go_wp2_with fail
    refine (num_any 1313162572 4 _ (.inr (.inr (.inl rfl))) (by decide)).mono ?_
    rintro e w1 ⟨v1, rfl, hown1, hb1⟩
    have hs1 : w.heap.size + 1 ≤ w1.heap.size := Nat.le_trans (by simp) hb1.size
    have HX1 := Lib.hid ((Boxed.new w _ _ 48).mono hb1 (by simp) : Boxed w1 w.heap.size ⟨k, c, false, l⟩ (.slice x d cap))
    have HB1 := Lib.hid ((((Below.refl w.heap.size w).alloc (Nat.le_refl _) _).trans (hb1.mono (by simp))) : Below w.heap.size w w1)
    have HO1 := Lib.hid (ownsRow_base hown1 (show w.heap.size + 1 ≤ _ from by simp))
    clear hown1 hb1
    go_wp2_with fail
    refine (num_any (flagN false) 4 _ (.inr (.inr (.inl rfl))) HG.out).mono ?_
    rintro e w2 ⟨v2, rfl, hown2, hb2⟩
    have hs2 : w.heap.size + 1 ≤ w2.heap.size := Nat.le_trans hs1 hb2.size
    have HX2 := Lib.hid (HX1.out.mono hb2 hs1)
    have HB2 := Lib.hid (HB1.out.trans (hb2.mono (Nat.le_of_succ_le hs1)))
    have HO2 := Lib.hid (ownsRow_below HO1.out hb2 (Nat.le_refl _))
    have HN := Lib.hid (IsB.own hown2 (length_le _ _).symm)
    clear hown2 hb2 HX1 HO1 HB1 hs1
    go_wp2_with (at_builtin; refine wpList_append_B (by rfl) _ _ 45 rfl (w.heap.size + 1) 5 i0 Tryz.underlying45 hi hz0 hz1 hz2 _ (le 1313162572 4) _ rfl HO2.out ((length_le _ _).symm) _ (le (flagN false) 4) rfl (HN.out) (by simp [length_le]) hs2 ?_)
    intro v3 w3 hown3 hb3
    have hs3 : w.heap.size + 1 ≤ w3.heap.size := Nat.le_trans hs2 hb3.size
    have HX3 := Lib.hid (HX2.out.mono hb3 (Nat.lt_succ_self _))
    have HB3 := Lib.hid (HB2.out.trans (hb3.mono (Nat.le_succ _)))
    have HO3 := Lib.hid hown3
    clear hown3 hb3 HX2 HO2 HB2 hs2
    obtain ⟨q0, q1, q2, q3⟩ := HX3.out
    go_wp2_with fail
    refine (num_any k 8 _ (.inr (.inr (.inr rfl))) HK8.out).mono ?_
    rintro e w4 ⟨v4, rfl, hown4, hb4⟩
    have hs4 : w.heap.size + 1 ≤ w4.heap.size := Nat.le_trans hs3 hb4.size
    have HX4 := Lib.hid (HX3.out.mono hb4 hs3)
    have HB4 := Lib.hid (HB3.out.trans (hb4.mono (Nat.le_of_succ_le hs3)))
    have HO4 := Lib.hid (ownsRow_below HO3.out hb4 (Nat.le_refl _))
    have HN := Lib.hid (IsB.own hown4 (length_le _ _).symm)
    clear hown4 hb4 HX3 HO3 HB3 hs3
    clear q0 q1 q2 q3
    go_wp2_with (at_builtin; refine wpList_append_B (by rfl) _ _ 45 rfl (w.heap.size + 1) 5 i0 Tryz.underlying45 hi hz0 hz1 hz2 _ ((le 1313162572 4) ++ (le (flagN false) 4)) _ rfl HO4.out (rfl) _ (le k 8) rfl (HN.out) (by simp [length_le]) hs4 ?_)
    intro v5 w5 hown5 hb5
    have hs5 : w.heap.size + 1 ≤ w5.heap.size := Nat.le_trans hs4 hb5.size
    have HX5 := Lib.hid (HX4.out.mono hb5 (Nat.lt_succ_self _))
    have HB5 := Lib.hid (HB4.out.trans (hb5.mono (Nat.le_succ _)))
    have HO5 := Lib.hid hown5
    clear hown5 hb5 HX4 HO4 HB4 hs4
    obtain ⟨q0, q1, q2, q3⟩ := HX5.out
    go_wp2_with fail
    refine (num_any c 4 _ (.inr (.inr (.inl rfl))) HC4.out).mono ?_
    rintro e w6 ⟨v6, rfl, hown6, hb6⟩
    have hs6 : w.heap.size + 1 ≤ w6.heap.size := Nat.le_trans hs5 hb6.size
    have HX6 := Lib.hid (HX5.out.mono hb6 hs5)
    have HB6 := Lib.hid (HB5.out.trans (hb6.mono (Nat.le_of_succ_le hs5)))
    have HO6 := Lib.hid (ownsRow_below HO5.out hb6 (Nat.le_refl _))
    have HN := Lib.hid (IsB.own hown6 (length_le _ _).symm)
    clear hown6 hb6 HX5 HO5 HB5 hs5
    clear q0 q1 q2 q3
    go_wp2_with (at_builtin; refine wpList_append_B (by rfl) _ _ 45 rfl (w.heap.size + 1) 5 i0 Tryz.underlying45 hi hz0 hz1 hz2 _ (((le 1313162572 4) ++ (le (flagN false) 4)) ++ (le k 8)) _ rfl HO6.out (rfl) _ (le c 4) rfl (HN.out) (by simp [length_le]) hs6 ?_)
    intro v7 w7 hown7 hb7
    have hs7 : w.heap.size + 1 ≤ w7.heap.size := Nat.le_trans hs6 hb7.size
    have HX7 := Lib.hid (HX6.out.mono hb7 (Nat.lt_succ_self _))
    have HB7 := Lib.hid (HB6.out.trans (hb7.mono (Nat.le_succ _)))
    have HO7 := Lib.hid hown7
    clear hown7 hb7 HX6 HO6 HB6 hs6
    obtain ⟨q0, q1, q2, q3⟩ := HX7.out
    go_wp2_with fail
    refine (num_any d 4 _ (.inr (.inr (.inl rfl))) HD4.out).mono ?_
    rintro e w8 ⟨v8, rfl, hown8, hb8⟩
    have hs8 : w.heap.size + 1 ≤ w8.heap.size := Nat.le_trans hs7 hb8.size
    have HX8 := Lib.hid (HX7.out.mono hb8 hs7)
    have HB8 := Lib.hid (HB7.out.trans (hb8.mono (Nat.le_of_succ_le hs7)))
    have HO8 := Lib.hid (ownsRow_below HO7.out hb8 (Nat.le_refl _))
    have HN := Lib.hid (IsB.own hown8 (length_le _ _).symm)
    clear hown8 hb8 HX7 HO7 HB7 hs7
    clear q0 q1 q2 q3
    go_wp2_with (at_builtin; refine wpList_append_B (by rfl) _ _ 45 rfl (w.heap.size + 1) 5 i0 Tryz.underlying45 hi hz0 hz1 hz2 _ ((((le 1313162572 4) ++ (le (flagN false) 4)) ++ (le k 8)) ++ (le c 4)) _ rfl HO8.out (rfl) _ (le d 4) rfl (HN.out) (by simp [length_le]) hs8 ?_)
    intro v9 w9 hown9 hb9
    have hs9 : w.heap.size + 1 ≤ w9.heap.size := Nat.le_trans hs8 hb9.size
    have HX9 := Lib.hid (HX8.out.mono hb9 (Nat.lt_succ_self _))
    have HB9 := Lib.hid (HB8.out.trans (hb9.mono (Nat.le_succ _)))
    have HO9 := Lib.hid hown9
    clear hown9 hb9 HX8 HO8 HB8 hs8
    go_wp2
    go_ret
    exact ⟨_, rfl, front_fin HF.out HO9.out, HB9.out⟩
  · go_enter Tryz.func105, Tryz.ntmps105
    go_wp2_with fail
    refine (num_any 1313162572 4 _ (.inr (.inr (.inl rfl))) (by decide)).mono ?_
    rintro e w1 ⟨v1, rfl, hown1, hb1⟩
    have hs1 : w.heap.size + 1 ≤ w1.heap.size := Nat.le_trans (by simp) hb1.size
    have HX1 := Lib.hid ((Boxed.new w _ _ 48).mono hb1 (by simp) : Boxed w1 w.heap.size ⟨k, c, true, l⟩ (.slice x d cap))
    have HB1 := Lib.hid ((((Below.refl w.heap.size w).alloc (Nat.le_refl _) _).trans (hb1.mono (by simp))) : Below w.heap.size w w1)
    have HO1 := Lib.hid (ownsRow_base hown1 (show w.heap.size + 1 ≤ _ from by simp))
    clear hown1 hb1
    go_wp2_with fail
    refine (num_any (flagN true) 4 _ (.inr (.inr (.inl rfl))) HG.out).mono ?_
    rintro e w2 ⟨v2, rfl, hown2, hb2⟩
    have hs2 : w.heap.size + 1 ≤ w2.heap.size := Nat.le_trans hs1 hb2.size
    have HX2 := Lib.hid (HX1.out.mono hb2 hs1)
    have HB2 := Lib.hid (HB1.out.trans (hb2.mono (Nat.le_of_succ_le hs1)))
    have HO2 := Lib.hid (ownsRow_below HO1.out hb2 (Nat.le_refl _))
    have HN := Lib.hid (IsB.own hown2 (length_le _ _).symm)
    clear hown2 hb2 HX1 HO1 HB1 hs1
    go_wp2_with (at_builtin; refine wpList_append_B (by rfl) _ _ 45 rfl (w.heap.size + 1) 5 i0 Tryz.underlying45 hi hz0 hz1 hz2 _ (le 1313162572 4) _ rfl HO2.out ((length_le _ _).symm) _ (le (flagN true) 4) rfl (HN.out) (by simp [length_le]) hs2 ?_)
    intro v3 w3 hown3 hb3
    have hs3 : w.heap.size + 1 ≤ w3.heap.size := Nat.le_trans hs2 hb3.size
    have HX3 := Lib.hid (HX2.out.mono hb3 (Nat.lt_succ_self _))
    have HB3 := Lib.hid (HB2.out.trans (hb3.mono (Nat.le_succ _)))
    have HO3 := Lib.hid hown3
    clear hown3 hb3 HX2 HO2 HB2 hs2
    obtain ⟨q0, q1, q2, q3⟩ := HX3.out
    go_wp2_with fail
    refine (num_any k 8 _ (.inr (.inr (.inr rfl))) HK8.out).mono ?_
    rintro e w4 ⟨v4, rfl, hown4, hb4⟩
    have hs4 : w.heap.size + 1 ≤ w4.heap.size := Nat.le_trans hs3 hb4.size
    have HX4 := Lib.hid (HX3.out.mono hb4 hs3)
    have HB4 := Lib.hid (HB3.out.trans (hb4.mono (Nat.le_of_succ_le hs3)))
    have HO4 := Lib.hid (ownsRow_below HO3.out hb4 (Nat.le_refl _))
    have HN := Lib.hid (IsB.own hown4 (length_le _ _).symm)
    clear hown4 hb4 HX3 HO3 HB3 hs3
    clear q0 q1 q2 q3
    go_wp2_with (at_builtin; refine wpList_append_B (by rfl) _ _ 45 rfl (w.heap.size + 1) 5 i0 Tryz.underlying45 hi hz0 hz1 hz2 _ ((le 1313162572 4) ++ (le (flagN true) 4)) _ rfl HO4.out (rfl) _ (le k 8) rfl (HN.out) (by simp [length_le]) hs4 ?_)
    intro v5 w5 hown5 hb5
    have hs5 : w.heap.size + 1 ≤ w5.heap.size := Nat.le_trans hs4 hb5.size
    have HX5 := Lib.hid (HX4.out.mono hb5 (Nat.lt_succ_self _))
    have HB5 := Lib.hid (HB4.out.trans (hb5.mono (Nat.le_succ _)))
    have HO5 := Lib.hid hown5
    clear hown5 hb5 HX4 HO4 HB4 hs4
    obtain ⟨q0, q1, q2, q3⟩ := HX5.out
    go_wp2_with fail
    refine (num_any c 4 _ (.inr (.inr (.inl rfl))) HC4.out).mono ?_
    rintro e w6 ⟨v6, rfl, hown6, hb6⟩
    have hs6 : w.heap.size + 1 ≤ w6.heap.size := Nat.le_trans hs5 hb6.size
    have HX6 := Lib.hid (HX5.out.mono hb6 hs5)
    have HB6 := Lib.hid (HB5.out.trans (hb6.mono (Nat.le_of_succ_le hs5)))
    have HO6 := Lib.hid (ownsRow_below HO5.out hb6 (Nat.le_refl _))
    have HN := Lib.hid (IsB.own hown6 (length_le _ _).symm)
    clear hown6 hb6 HX5 HO5 HB5 hs5
    clear q0 q1 q2 q3
    go_wp2_with (at_builtin; refine wpList_append_B (by rfl) _ _ 45 rfl (w.heap.size + 1) 5 i0 Tryz.underlying45 hi hz0 hz1 hz2 _ (((le 1313162572 4) ++ (le (flagN true) 4)) ++ (le k 8)) _ rfl HO6.out (rfl) _ (le c 4) rfl (HN.out) (by simp [length_le]) hs6 ?_)
    intro v7 w7 hown7 hb7
    have hs7 : w.heap.size + 1 ≤ w7.heap.size := Nat.le_trans hs6 hb7.size
    have HX7 := Lib.hid (HX6.out.mono hb7 (Nat.lt_succ_self _))
    have HB7 := Lib.hid (HB6.out.trans (hb7.mono (Nat.le_succ _)))
    have HO7 := Lib.hid hown7
    clear hown7 hb7 HX6 HO6 HB6 hs6
    obtain ⟨q0, q1, q2, q3⟩ := HX7.out
    go_wp2_with fail
    refine (num_any d 4 _ (.inr (.inr (.inl rfl))) HD4.out).mono ?_
    rintro e w8 ⟨v8, rfl, hown8, hb8⟩
    have hs8 : w.heap.size + 1 ≤ w8.heap.size := Nat.le_trans hs7 hb8.size
    have HX8 := Lib.hid (HX7.out.mono hb8 hs7)
    have HB8 := Lib.hid (HB7.out.trans (hb8.mono (Nat.le_of_succ_le hs7)))
    have HO8 := Lib.hid (ownsRow_below HO7.out hb8 (Nat.le_refl _))
    have HN := Lib.hid (IsB.own hown8 (length_le _ _).symm)
    clear hown8 hb8 HX7 HO7 HB7 hs7
    clear q0 q1 q2 q3
    go_wp2_with (at_builtin; refine wpList_append_B (by rfl) _ _ 45 rfl (w.heap.size + 1) 5 i0 Tryz.underlying45 hi hz0 hz1 hz2 _ ((((le 1313162572 4) ++ (le (flagN true) 4)) ++ (le k 8)) ++ (le c 4)) _ rfl HO8.out (rfl) _ (le d 4) rfl (HN.out) (by simp [length_le]) hs8 ?_)
    intro v9 w9 hown9 hb9
    have hs9 : w.heap.size + 1 ≤ w9.heap.size := Nat.le_trans hs8 hb9.size
    have HX9 := Lib.hid (HX8.out.mono hb9 (Nat.lt_succ_self _))
    have HB9 := Lib.hid (HB8.out.trans (hb9.mono (Nat.le_succ _)))
    have HO9 := Lib.hid hown9
    clear hown9 hb9 HX8 HO8 HB8 hs8
    go_wp2
    go_ret
    exact ⟨_, rfl, front_fin HF.out HO9.out, HB9.out⟩


set_option maxHeartbeats 2000000 in
theorem put_okN (n : Ndl) (v : Value) (w : World) (hv : IsB w v n.data) (hf : n.fits) (h : ncheck n = 0) :
    Calls Tryz.prog 82 #[nval n v] w fun e w' => ∃ v', e = .returned (.tuple #[v', .nilIface]) ∧ w'.ownsRow w.heap.size 5 1 v' (nbytes n).length (bvs (nbytes n)) ∧ Below w.heap.size w w' := by
  obtain ⟨i0, hi, hz0, hz1, hz2⟩ := info_parts Tryz.infoU8
  have hd := (ncheck_ok h).1
  obtain ⟨F, hF⟩ : ∃ F, F = front n := ⟨_, rfl⟩
  obtain ⟨s, hs⟩ : ∃ s, s = crc (F ++ n.data) := ⟨_, rfl⟩
  have hs4 : s < 4294967296 := by rw [hs]; exact crc_lt _
  have HS4 := Lib.hid (show s ≤ great ((4 : Nat) : Int) from Nat.le_of_lt_succ hs4)
  have hNB : nbytes n = F ++ le s 4 ++ zerosN 4 ++ n.data ++ zerosN (padn n.data.length) := by rw [hs, hF]; rfl
  have hFl : F.length = 24 := by rw [hF]; exact length_front n
  have HFl := Lib.hid hFl
  have HF := Lib.hid hF
  have HC := Lib.hid h
  have HFi := Lib.hid hf
  obtain ⟨k, c, g, l⟩ := n
  have HS := Lib.hid (show s = crc (F ++ l) from hs)
  have HNB := Lib.hid (show nbytes ⟨k, c, g, l⟩ = F ++ le s 4 ++ zerosN 4 ++ l ++ zerosN (padn l.length) from hNB)
  obtain ⟨d, hl⟩ : ∃ d : Nat, l.length = d := ⟨_, rfl⟩
  have HL := Lib.hid hl
  have HV := Lib.hid hv
  obtain ⟨x, cap, rfl, hlc, hcm⟩ := hv.at_len hl
  have hd' : d ≤ 4096 := by rw [← hl]; exact hd
  have HZ := Lib.hid (nsize_nat hd')
  have HP := Lib.hid (pad_padn d)
  have hp8 := padn_lt d
  obtain ⟨p, hp⟩ : ∃ p, p = padn d := ⟨_, rfl⟩
  rw [← hp] at HZ HP hp8
  have HPD := Lib.hid hp
  obtain ⟨S, hS⟩ : ∃ S : Nat, S = 32 + d + p := ⟨_, rfl⟩
  rw [← hS] at HZ
  have hS' : S ≤ 5000 := by omega
  have hmk : ∀ wx : World, (Instr.makeSlice 45 (.int .i64 0) (.int .i64 (S : Int))).run Tryz.prog wx = .ok (.slice (some ⟨wx.heap.size, 0, none⟩) 0 S) (wx.alloc (.cells (madeCells #[.int .u8 0] S) 5)) := fun wx => by
    have := run_make (P := Tryz.prog) wx 45 5 i0 (.int .u8 0) Tryz.underlying45 hi hz0 .i64 .i64 0 (S : Int) (by omega) (by omega) (by rw [hz2]; omega) (by omega)
    rw [this, hz1]
    simp [Value.cells]
  clear hv hd hF hs hl hf h hFl hp hS hNB
  go_enter Tryz.func82, Tryz.ntmps82
  go_wp2_with fail
  refine (check_any ⟨k, c, g, l⟩ _ _ (HV.out.mono ((Below.refl _ _).alloc (Nat.le_refl _) _) (Nat.le_refl _))).mono ?_
  rintro e w1 ⟨rfl, hb1⟩
  rw [HC.out, cerr_0]
  have hs1 : w.heap.size + 1 ≤ w1.heap.size := Nat.le_trans (by simp) hb1.size
  have HX1 := Lib.hid ((Boxed.new w _ _ 48).mono hb1 (by simp) : Boxed w1 w.heap.size ⟨k, c, g, l⟩ (.slice x d cap))
  have HB1 := Lib.hid ((((Below.refl w.heap.size w).alloc (Nat.le_refl _) _).trans (hb1.mono (by simp))) : Below w.heap.size w w1)
  have HV1 := Lib.hid (HV.out.mono HB1.out (Nat.le_refl _))
  clear hb1
  obtain ⟨q0, q1, q2, q3⟩ := HX1.out
  go_wp2_with fail
  refine (summed_any ⟨k, c, g, l⟩ _ _ HV1.out HFi.out (by show l.length ≤ 4096; rw [HL.out]; exact hd')).mono ?_
  rintro e w2 ⟨v2, rfl, hown2, hb2⟩
  have hs2 : w.heap.size + 1 ≤ w2.heap.size := Nat.le_trans hs1 hb2.size
  have HX2 := Lib.hid (HX1.out.mono hb2 hs1)
  have HB2 := Lib.hid (HB1.out.trans (hb2.mono (Nat.le_of_succ_le hs1)))
  have HV2 := Lib.hid (HV.out.mono HB2.out (Nat.le_refl _))
  have HF2 := Lib.hid (show IsB w2 v2 F from by rw [HF.out]; exact IsB.own hown2 (length_front _).symm)
  clear q0 q1 q2 q3 hown2 hb2 HX1 HB1 HV1 hs1
  obtain ⟨q0, q1, q2, q3⟩ := HX2.out
  go_wp2_with fail
  refine (size_any (d : Int) _ (by omega) (by omega)).mono ?_
  rintro e w' ⟨rfl, rfl⟩
  rw [HZ.out]
  have hb3 : Below w2.heap.size w2 (w2.alloc (.cells (madeCells #[.int .u8 0] S) 5)) := (Below.refl _ _).alloc (Nat.le_refl _) _
  have HS3 := Lib.hid hb3.size
  have HO3 := Lib.hid (World.ownsRow_made (base := w2.heap.size) (e := 5) (size := 1) w2 (madeCells #[.int .u8 0] S) S (Nat.le_refl _) (by unfold maxLen; omega) (by simp [size_madeCells]))
  have HB3 := Lib.hid hb3
  have HF3 := Lib.hid (HF2.out.mono hb3 (Nat.le_refl _))
  clear hb3 q0 q1 q2 q3
  go_wp2_with (at_builtin; refine wpList_append_B (by rfl) _ _ 45 rfl w2.heap.size 5 i0 Tryz.underlying45 hi hz0 hz1 hz2 _ [] _ rfl HO3.out rfl _ F rfl HF3.out (by rw [HFl.out]; decide) HS3.out ?_)
  intro v4 w4 hown4 hb4
  have HO4 := Lib.hid (show w4.ownsRow w2.heap.size 5 1 v4 F.length (bvs F) from by simpa using hown4)
  have HB4 := Lib.hid (HB3.out.trans hb4)
  clear hown4 hb4 HB3 HS3 HO3 HF3
  obtain ⟨q0, q1, q2, q3⟩ := HX2.out.mono HB4.out hs2
  go_wp2_with fail
  refine (sumOf_any _ _ F l _ (HF2.out.mono HB4.out (Nat.le_refl _)) (HV2.out.mono HB4.out (Nat.le_refl _)) (by rw [HFl.out]; decide) (by rw [HL.out]; omega)).mono ?_
  rintro e w' ⟨rfl, rfl⟩
  rw [← HS.out]
  go_wp2_with fail
  refine (num_any s 4 _ (.inr (.inr (.inl rfl))) HS4.out).mono ?_
  rintro e w5 ⟨v5, rfl, hown5, hb5⟩
  have HN5 := Lib.hid (IsB.own hown5 (length_le _ _).symm)
  have HO5 := Lib.hid (ownsRow_below HO4.out hb5 (Nat.le_refl _))
  have HB5 := Lib.hid (HB4.out.trans (hb5.mono HB4.out.size))
  have HS5 := Lib.hid HB5.out.size
  clear q0 q1 q2 q3 hown5 hb5 HO4 HB4
  go_wp2_with (at_builtin; refine wpList_append_B (by rfl) _ _ 45 rfl w2.heap.size 5 i0 Tryz.underlying45 hi hz0 hz1 hz2 _ F _ rfl HO5.out rfl _ (le s 4) rfl HN5.out (by rw [HFl.out, length_le]; decide) HS5.out ?_)
  intro v6 w6 hown6 hb6
  obtain ⟨X6, hX6⟩ : ∃ X, X = F ++ le s 4 := ⟨_, rfl⟩
  have HO6 := Lib.hid (show w6.ownsRow w2.heap.size 5 1 v6 X6.length (bvs X6) from by rw [hX6]; simpa using hown6)
  have HL6 := Lib.hid (show X6.length = 28 from by rw [hX6, List.length_append, HFl.out, length_le])
  have HX6 := Lib.hid hX6
  have HB6 := Lib.hid (HB5.out.trans hb6)
  have HS6 := Lib.hid HB6.out.size
  clear hown6 hb6 hX6 HO5 HB5 HN5 HS5
  go_wp2_with (at_builtin; refine wpList_append_zeros (by rfl) _ _ 45 3 rfl w2.heap.size 5 i0 Tryz.underlying45 Tryz.underlying3 hi hz0 hz1 hz2 _ X6 _ rfl HO6.out rfl 4 rfl (by rw [HL6.out]; decide) HS6.out ?_)
  intro v7 w7 hown7 hb7
  obtain ⟨X7, hX7⟩ : ∃ X, X = X6 ++ zerosN 4 := ⟨_, rfl⟩
  have HO7 := Lib.hid (show w7.ownsRow w2.heap.size 5 1 v7 X7.length (bvs X7) from by rw [hX7]; simpa using hown7)
  have HL7 := Lib.hid (show X7.length = 32 from by rw [hX7, List.length_append, HL6.out, length_zerosN])
  have HX7 := Lib.hid hX7
  have HB7 := Lib.hid (HB6.out.trans hb7)
  have HS7 := Lib.hid HB7.out.size
  have HV7 := Lib.hid (HV2.out.mono HB7.out (Nat.le_refl _))
  clear hown7 hb7 hX7 HO6 HB6 HS6 HL6
  obtain ⟨q0, q1, q2, q3⟩ := HX2.out.mono HB7.out hs2
  go_wp2_with (at_builtin; refine wpList_append_B (by rfl) _ _ 45 rfl w2.heap.size 5 i0 Tryz.underlying45 hi hz0 hz1 hz2 _ X7 _ rfl HO7.out rfl _ l rfl HV7.out (by rw [HL7.out, HL.out]; omega) HS7.out ?_)
  intro v8 w8 hown8 hb8
  obtain ⟨X8, hX8⟩ : ∃ X, X = X7 ++ l := ⟨_, rfl⟩
  have HO8 := Lib.hid (show w8.ownsRow w2.heap.size 5 1 v8 X8.length (bvs X8) from by rw [hX8]; simpa using hown8)
  have HL8 := Lib.hid (show X8.length = 32 + d from by rw [hX8, List.length_append, HL7.out, HL.out])
  have HX8 := Lib.hid hX8
  have HB8 := Lib.hid (HB7.out.trans hb8)
  have HS8 := Lib.hid HB8.out.size
  clear hown8 hb8 hX8 HO7 HB7 HS7 HL7 HV7 q0 q1 q2 q3
  obtain ⟨q0, q1, q2, q3⟩ := HX2.out.mono HB8.out hs2
  go_wp2_with fail
  refine (pad_any (d : Int) _ (by omega) (by omega)).mono ?_
  rintro e w' ⟨rfl, rfl⟩
  rw [HP.out]
  go_wp2_with (at_builtin; refine wpList_append_zeros (by rfl) _ _ 45 3 rfl w2.heap.size 5 i0 Tryz.underlying45 Tryz.underlying3 hi hz0 hz1 hz2 _ X8 _ rfl HO8.out rfl p rfl (by rw [HL8.out]; omega) HS8.out ?_)
  intro v9 w9 hown9 hb9
  have HR := Lib.hid (show nbytes ⟨k, c, g, l⟩ = X8 ++ zerosN p from by rw [HNB.out, HX8.out, HX7.out, HX6.out, HPD.out, ← HL.out])
  have HO9 := Lib.hid (show w9.ownsRow w.heap.size 5 1 v9 (nbytes ⟨k, c, g, l⟩).length (bvs (nbytes ⟨k, c, g, l⟩)) from by
    rw [HR.out]
    exact ownsRow_base (show w9.ownsRow w2.heap.size 5 1 v9 (X8 ++ zerosN p).length (bvs (X8 ++ zerosN p)) from by simpa using hown9) (Nat.le_of_succ_le hs2))
  have HB9 := Lib.hid (HB2.out.trans ((HB8.out.trans hb9).mono (Nat.le_of_succ_le hs2)))
  clear hown9 hb9
  go_wp2
  go_ret2
  exact ⟨_, rfl, HO9.out, HB9.out⟩

end Go.Proofs.YtoblbipkkdiddaaGreatDoor.Nd
end

section
namespace Go.Proofs.YtoblbipkkdiddaaGreatDoor.Nd
open Go.RowKit Go.Cor

theorem zeroB_first {l : List UInt8} (h : zeroB l = false) : ∃ p, p < l.length ∧ l.getD p 0 ≠ 0 ∧ ∀ i, i < p → l.getD i 0 = 0 := by
  induction l with
  | nil => simp [zeroB] at h
  | cons x l ih =>
    by_cases hx : x = 0
    · subst hx
      have h' : zeroB l = false := by
        unfold zeroB at h ⊢
        simpa using h
      obtain ⟨p, h1, h2, h3⟩ := ih h'
      refine ⟨p + 1, by simpa using h1, by simpa using h2, fun i hi => ?_⟩
      cases i with
      | zero => rfl
      | succ i => simpa using h3 i (by omega)
    · exact ⟨0, by simp, by simpa using hx, fun i hi => by omega⟩

theorem zero_anyB (v : Value) (l : List UInt8) (w : World) (hv : IsB w v l) (hl : l.length ≤ 1099511627776) :
    Calls Tryz.prog 78 #[v] w fun e w' => e = .returned (.bool (zeroB l)) ∧ w = w' := by
  cases hz : zeroB l with
  | true =>
    refine zero_yes v l w hv hl fun i hi => ?_
    have := of_decide_eq_true hz
    rw [List.getD_eq_getElem?_getD, List.getElem?_eq_getElem hi]
    exact this _ (List.getElem_mem hi)
  | false =>
    obtain ⟨p, h1, h2, h3⟩ := zeroB_first hz
    exact zero_no v l p w hv hl h1 h2 h3

/-- Where bytes lie, if there are some. -/
theorem IsB.addr {w : World} {v : Value} {l : List UInt8} {n : Nat} (h : IsB w v l) (hn : l.length = n) (h0 : 0 < n) : ∃ b off cap, v = .slice (some ⟨b, off, none⟩) n cap ∧ n ≤ cap ∧ cap ≤ maxLen := by
  obtain ⟨a, cap, rfl, h1, h2, _, h3⟩ := h
  rcases h3 with h3 | ⟨b, off, rfl, _⟩
  · omega
  · exact ⟨b, off, cap, by rw [hn], by omega, h2⟩
theorem IsB.subAt {w : World} {b off n cap : Nat} {l : List UInt8} (h : IsB w (.slice (some ⟨b, off, none⟩) n cap) l) (j k : Nat) (hjk : j + k ≤ l.length) :
    IsB w (.slice (some ⟨b, off + j, none⟩) k (cap - j)) ((l.drop j).take k) := by
  have := IsB.sub (x := some ⟨b, off, none⟩) h hjk
  simpa [add_lit] using this

theorem slice_lh_B {P : Program} {w : World} {v : Value} {l : List UInt8} (hv : IsB w v l) (T U : TypeId) (ht : P.underlying T = some (.slice U)) (hs : (P.info? U).map (·.size) = some 1) (lo hi : Nat) (h1 : lo ≤ hi) (h2 : hi ≤ l.length) :
    ∃ sv, (∀ W, (Instr.slice T v (some (.int .i64 (lo : Int))) (some (.int .i64 (hi : Int))) none).run P W = .ok sv W) ∧ IsB w sv ((l.drop lo).take (hi - lo)) := by
  obtain ⟨i, hi1, hi2⟩ := Option.map_eq_some_iff.1 hs
  obtain ⟨a, cap, rfl, k1, k2, k0, k3⟩ := hv
  have ht' : P.underlying T = some (.slice (P.elem T)) := by simp [Program.elem, ht]
  have he : P.elem T = U := by simp [Program.elem, ht]
  have hsz : ∀ W, (sizeOf U).run P W = .ok 1 W := fun W => by simp [sizeOf, typeInfo, hi1, hi2]
  refine ⟨sliced a lo hi cap 1, fun W => ?_, ?_⟩
  · rw [run_slice_lh W T _ _ _ ht' .i64 .i64 _ _ (by omega) (by omega) (by omega), he, hsz]
    simp [Result.andThen]
  · have hlen : ((l.drop lo).take (hi - lo)).length = hi - lo := by simp; omega
    unfold sliced
    refine ⟨_, _, by rw [hlen], by rw [hlen]; omega, by omega, fun hx => ?_, ?_⟩
    · split at hx
      · omega
      · have : a = none := by simpa using hx
        rw [k0 this]
        omega
    · rw [hlen]
      by_cases h0 : hi - lo = 0
      · exact .inl h0
      · rcases k3 with k3 | ⟨b, off, rfl, hc⟩
        · omega
        · rw [if_neg (by omega)]
          refine .inr ⟨b, off + lo, by simp [add_lit], fun i hi => ?_⟩
          rw [show off + lo + i = off + (lo + i) from by omega, hc (lo + i) (by omega)]
          congr 2
          simp only [List.getD_eq_getElem?_getD, List.getElem?_take, if_pos hi, List.getElem?_drop]
theorem slice_h_B {P : Program} {w : World} {v : Value} {l : List UInt8} (hv : IsB w v l) (T U : TypeId) (ht : P.underlying T = some (.slice U)) (hs : (P.info? U).map (·.size) = some 1) (hi : Nat) (h2 : hi ≤ l.length) :
    ∃ sv, (∀ W, (Instr.slice T v none (some (.int .i64 (hi : Int))) none).run P W = .ok sv W) ∧ IsB w sv (l.take hi) := by
  obtain ⟨i, hi1, hi2⟩ := Option.map_eq_some_iff.1 hs
  have HV := hv
  obtain ⟨a, cap, rfl, k1, k2, k0, k3⟩ := hv
  have ht' : P.underlying T = some (.slice (P.elem T)) := by simp [Program.elem, ht]
  have he : P.elem T = U := by simp [Program.elem, ht]
  have hsz : ∀ W, (sizeOf U).run P W = .ok 1 W := fun W => by simp [sizeOf, typeInfo, hi1, hi2]
  refine ⟨.slice a hi cap, fun W => ?_, HV.take h2⟩
  rw [run_slice_h W T _ _ _ ht' .i64 _ (by omega) (by omega), he, hsz]
  by_cases hc0 : cap = 0
  · simp [Result.andThen, sliced, hc0]
  · have hadd : (a.map fun x => x.add 0) = a := by cases a <;> simp [Addr.add]
    simp [Result.andThen, sliced, hc0, hadd]
theorem len_B {P : Program} {w : World} {v : Value} {l : List UInt8} (hv : IsB w v l) {n : Nat} (hn : l.length = n) (T ty U : TypeId) (ht : P.underlying T = some (.slice U)) (W : World) : (Builtin.len_ #[T] ty #[v]).run P W = .ok (.int .i64 (n : Int)) W := by
  obtain ⟨a, cap, rfl, k1, k2, k0, k3⟩ := hv
  subst hn
  have ht' : P.underlying T = some (.slice (P.elem T)) := by simp [Program.elem, ht]
  exact run_len_slice (P := P) W T ty a l.length cap ht'

theorem ownsRow_slice {w : World} {base : Nat} {e : TypeId} {size : Nat} {v : Value} {n : Nat} {xs : List Value} (h : w.ownsRow base e size v n xs) : ∃ x c, v = .slice x n c := by
  rcases h.2 with ⟨rfl, rfl⟩ | ⟨g, cap, cur, rfl, _⟩
  · exact ⟨_, _, rfl⟩
  · exact ⟨_, _, rfl⟩
theorem clone_S (v : Value) (l : List UInt8) (w : World) (n : Nat) (hv : IsB w v l) (hl : l.length ≤ 1099511627776) (hn : l.length = n) :
    Calls Tryz.prog 79 #[v] w fun e w' =>
      ∃ x c, e = .returned (.slice x n c) ∧ w'.ownsRow w.heap.size 5 1 (.slice x n c) n (bvs l) ∧ Below w.heap.size w w' := by
  refine (clone_any v l w hv hl).mono ?_
  rintro e w' ⟨v', rfl, hown, hb⟩
  rw [hn] at hown
  obtain ⟨x, c, rfl⟩ := ownsRow_slice hown
  exact ⟨x, c, rfl, hown, hb⟩
theorem at_24_4 (v : Value) (l : List UInt8) (w : World) (hv : IsB w v l) (hl : l.length ≤ 1099511627776) (h : 32 ≤ l.length) :
    Calls Tryz.prog 76 #[v, .int .i64 24, .int .i64 4] w fun e w' => e = .returned (.int .u64 (fld l 24 4 : Nat)) ∧ w = w' := at_any v l 24 4 w (.inr (.inr (.inl rfl))) hv hl (by omega)
theorem at_8_8 (v : Value) (l : List UInt8) (w : World) (hv : IsB w v l) (hl : l.length ≤ 1099511627776) (h : 32 ≤ l.length) :
    Calls Tryz.prog 76 #[v, .int .i64 8, .int .i64 8] w fun e w' => e = .returned (.int .u64 (fld l 8 8 : Nat)) ∧ w = w' := at_any v l 8 8 w (.inr (.inr (.inr rfl))) hv hl (by omega)
theorem at_16_4 (v : Value) (l : List UInt8) (w : World) (hv : IsB w v l) (hl : l.length ≤ 1099511627776) (h : 32 ≤ l.length) :
    Calls Tryz.prog 76 #[v, .int .i64 16, .int .i64 4] w fun e w' => e = .returned (.int .u64 (fld l 16 4 : Nat)) ∧ w = w' := at_any v l 16 4 w (.inr (.inr (.inl rfl))) hv hl (by omega)
theorem at_4_4 (v : Value) (l : List UInt8) (w : World) (hv : IsB w v l) (hl : l.length ≤ 1099511627776) (h : 32 ≤ l.length) :
    Calls Tryz.prog 76 #[v, .int .i64 4, .int .i64 4] w fun e w' => e = .returned (.int .u64 (fld l 4 4 : Nat)) ∧ w = w' := at_any v l 4 4 w (.inr (.inr (.inl rfl))) hv hl (by omega)
theorem zeroB_fld (l : List UInt8) (a k : Nat) : zeroB ((l.drop a).take k) = decide (fld l a k = 0) := zeroB_num _

set_option maxHeartbeats 1000000 in
theorem formed_any (v : Value) (l : List UInt8) (w : World) (hv : IsB w v l) (h32 : 32 ≤ l.length) (hl : l.length ≤ 1099511627776) :
    Calls Tryz.prog 75 #[v] w fun e w' => e = .returned (.bool (formedB l)) ∧ w = w' := by
  obtain ⟨n, hn⟩ : ∃ n : Nat, l.length = n := ⟨_, rfl⟩
  obtain ⟨b, off, cap, rfl, hnc, hcm⟩ := IsB.addr hv hn (by omega)
  unfold maxLen at hcm
  have HN := Lib.hid hn
  have HV := Lib.hid hv
  have hf4 := fld4_lt l 4
  have hd4 := fld4_lt l 20
  have hm4 := fld4_lt l 0
  have HR : Hid (formedB l = decide (fld l 0 4 = 1313162572 ∧ fld l 4 4 ≤ 1 ∧ fld l 28 4 = 0 ∧ fld l 20 4 ≤ 4096 ∧ (fld l 4 4 = 1 → fld l 20 4 = 0))) := rfl
  have hzz := zeroB_fld l 28 4
  obtain ⟨m, hm⟩ : ∃ m : Nat, m = fld l 0 4 := ⟨_, rfl⟩
  obtain ⟨f, hf⟩ : ∃ f : Nat, f = fld l 4 4 := ⟨_, rfl⟩
  obtain ⟨d, hd⟩ : ∃ d : Nat, d = fld l 20 4 := ⟨_, rfl⟩
  obtain ⟨z, hz⟩ : ∃ z : Nat, z = fld l 28 4 := ⟨_, rfl⟩
  rw [← hm] at hm4
  rw [← hf] at hf4
  rw [← hd] at hd4
  rw [← hz] at hzz
  have HR' : Hid (formedB l = decide (m = 1313162572 ∧ f ≤ 1 ∧ z = 0 ∧ d ≤ 4096 ∧ (f = 1 → d = 0))) := by
    have := HR.out
    rw [← hm, ← hf, ← hd, ← hz] at this
    exact this
  have HM := Lib.hid hm
  have HF := Lib.hid hf
  have HD := Lib.hid hd
  have hcap : 32 ≤ cap := by omega
  have hn32 : 32 ≤ n := by omega
  have hnl : n ≤ 1099511627776 := by omega
  have HZ := Lib.hid hzz
  have HS := Lib.hid (IsB.subAt HV.out 28 4 (by omega))
  clear hm hf hd hz hn hv h32 hl HR hzz
  by_cases m1 : m = 1313162572
  · have mb : ((m : Int) != 1313162572) = false := by rw [bne_eq_false_iff_eq]; omega
    by_cases f1 : f ≤ 1
    · by_cases z1 : z = 0
      · have zb : decide (z = 0) = true := decide_eq_true z1
        by_cases d1 : d ≤ 4096
        · by_cases f3 : f = 1
          · have fb : ((f : Int) != 1) = false := by rw [bne_eq_false_iff_eq]; omega
            by_cases d3 : d = 0
            · have db : ((d : Int) == 0) = true := by rw [beq_iff_eq]; omega
              have HE := Lib.hid (show formedB l = true from by rw [HR'.out]; exact decide_eq_true ⟨m1, f1, z1, d1, fun _ => d3⟩)
              clear m1 z1 f3 d3
              go_enter Tryz.func75, Tryz.ntmps75
              go_wp2_with fail
              refine (at_any _ l 4 4 _ (.inr (.inr (.inl rfl))) HV.out (by rw [HN.out]; omega) (by rw [HN.out]; omega)).mono ?_
              rintro e w' ⟨rfl, rfl⟩
              rw [← HF.out]
              go_wp2_with fail
              refine (at_any _ l 20 4 _ (.inr (.inr (.inl rfl))) HV.out (by rw [HN.out]; omega) (by rw [HN.out]; omega)).mono ?_
              rintro e w' ⟨rfl, rfl⟩
              rw [← HD.out]
              go_wp2_with fail
              refine (at_any _ l 0 4 _ (.inr (.inr (.inl rfl))) HV.out (by rw [HN.out]; omega) (by rw [HN.out]; omega)).mono ?_
              rintro e w' ⟨rfl, rfl⟩
              rw [← HM.out]
              go_wp2_with fail
              refine (zero_anyB _ _ _ HS.out (by simp; omega)).mono ?_
              rintro e w' ⟨rfl, rfl⟩
              rw [HZ.out, zb]
              go_wp2
              go_ret
              exact ⟨by rw [HE.out]; rfl, rfl⟩
            · have db : ((d : Int) == 0) = false := by rw [beq_eq_false_iff_ne]; omega
              have HE := Lib.hid (show formedB l = false from by rw [HR'.out]; exact decide_eq_false (fun h => d3 (h.2.2.2.2 f3)))
              clear m1 z1 f3 d3
              go_enter Tryz.func75, Tryz.ntmps75
              go_wp2_with fail
              refine (at_any _ l 4 4 _ (.inr (.inr (.inl rfl))) HV.out (by rw [HN.out]; omega) (by rw [HN.out]; omega)).mono ?_
              rintro e w' ⟨rfl, rfl⟩
              rw [← HF.out]
              go_wp2_with fail
              refine (at_any _ l 20 4 _ (.inr (.inr (.inl rfl))) HV.out (by rw [HN.out]; omega) (by rw [HN.out]; omega)).mono ?_
              rintro e w' ⟨rfl, rfl⟩
              rw [← HD.out]
              go_wp2_with fail
              refine (at_any _ l 0 4 _ (.inr (.inr (.inl rfl))) HV.out (by rw [HN.out]; omega) (by rw [HN.out]; omega)).mono ?_
              rintro e w' ⟨rfl, rfl⟩
              rw [← HM.out]
              go_wp2_with fail
              refine (zero_anyB _ _ _ HS.out (by simp; omega)).mono ?_
              rintro e w' ⟨rfl, rfl⟩
              rw [HZ.out, zb]
              go_wp2
              go_ret
              exact ⟨by rw [HE.out]; rfl, rfl⟩
          · have fb : ((f : Int) != 1) = true := by rw [bne_iff_ne]; omega
            have HE := Lib.hid (show formedB l = true from by rw [HR'.out]; exact decide_eq_true ⟨m1, f1, z1, d1, fun h => absurd h f3⟩)
            clear m1 z1 f3
            go_enter Tryz.func75, Tryz.ntmps75
            go_wp2_with fail
            refine (at_any _ l 4 4 _ (.inr (.inr (.inl rfl))) HV.out (by rw [HN.out]; omega) (by rw [HN.out]; omega)).mono ?_
            rintro e w' ⟨rfl, rfl⟩
            rw [← HF.out]
            go_wp2_with fail
            refine (at_any _ l 20 4 _ (.inr (.inr (.inl rfl))) HV.out (by rw [HN.out]; omega) (by rw [HN.out]; omega)).mono ?_
            rintro e w' ⟨rfl, rfl⟩
            rw [← HD.out]
            go_wp2_with fail
            refine (at_any _ l 0 4 _ (.inr (.inr (.inl rfl))) HV.out (by rw [HN.out]; omega) (by rw [HN.out]; omega)).mono ?_
            rintro e w' ⟨rfl, rfl⟩
            rw [← HM.out]
            go_wp2_with fail
            refine (zero_anyB _ _ _ HS.out (by simp; omega)).mono ?_
            rintro e w' ⟨rfl, rfl⟩
            rw [HZ.out, zb]
            go_wp2
            go_ret
            exact ⟨by rw [HE.out]; rfl, rfl⟩
        · have d2 : 4096 < d := by omega
          have HE := Lib.hid (show formedB l = false from by rw [HR'.out]; exact decide_eq_false (fun h => d1 h.2.2.2.1))
          clear m1 z1 d1
          go_enter Tryz.func75, Tryz.ntmps75
          go_wp2_with fail
          refine (at_any _ l 4 4 _ (.inr (.inr (.inl rfl))) HV.out (by rw [HN.out]; omega) (by rw [HN.out]; omega)).mono ?_
          rintro e w' ⟨rfl, rfl⟩
          rw [← HF.out]
          go_wp2_with fail
          refine (at_any _ l 20 4 _ (.inr (.inr (.inl rfl))) HV.out (by rw [HN.out]; omega) (by rw [HN.out]; omega)).mono ?_
          rintro e w' ⟨rfl, rfl⟩
          rw [← HD.out]
          go_wp2_with fail
          refine (at_any _ l 0 4 _ (.inr (.inr (.inl rfl))) HV.out (by rw [HN.out]; omega) (by rw [HN.out]; omega)).mono ?_
          rintro e w' ⟨rfl, rfl⟩
          rw [← HM.out]
          go_wp2_with fail
          refine (zero_anyB _ _ _ HS.out (by simp; omega)).mono ?_
          rintro e w' ⟨rfl, rfl⟩
          rw [HZ.out, zb]
          go_wp2
          go_ret
          exact ⟨by rw [HE.out]; rfl, rfl⟩
      · have zb : decide (z = 0) = false := decide_eq_false z1
        have HE := Lib.hid (show formedB l = false from by rw [HR'.out]; exact decide_eq_false (fun h => z1 h.2.2.1))
        clear m1 z1
        go_enter Tryz.func75, Tryz.ntmps75
        go_wp2_with fail
        refine (at_any _ l 4 4 _ (.inr (.inr (.inl rfl))) HV.out (by rw [HN.out]; omega) (by rw [HN.out]; omega)).mono ?_
        rintro e w' ⟨rfl, rfl⟩
        rw [← HF.out]
        go_wp2_with fail
        refine (at_any _ l 20 4 _ (.inr (.inr (.inl rfl))) HV.out (by rw [HN.out]; omega) (by rw [HN.out]; omega)).mono ?_
        rintro e w' ⟨rfl, rfl⟩
        rw [← HD.out]
        go_wp2_with fail
        refine (at_any _ l 0 4 _ (.inr (.inr (.inl rfl))) HV.out (by rw [HN.out]; omega) (by rw [HN.out]; omega)).mono ?_
        rintro e w' ⟨rfl, rfl⟩
        rw [← HM.out]
        go_wp2_with fail
        refine (zero_anyB _ _ _ HS.out (by simp; omega)).mono ?_
        rintro e w' ⟨rfl, rfl⟩
        rw [HZ.out, zb]
        go_wp2
        go_ret
        exact ⟨by rw [HE.out]; rfl, rfl⟩
    · have f2 : 1 < f := by omega
      have HE := Lib.hid (show formedB l = false from by rw [HR'.out]; exact decide_eq_false (fun h => f1 h.2.1))
      clear m1 f1
      go_enter Tryz.func75, Tryz.ntmps75
      go_wp2_with fail
      refine (at_any _ l 4 4 _ (.inr (.inr (.inl rfl))) HV.out (by rw [HN.out]; omega) (by rw [HN.out]; omega)).mono ?_
      rintro e w' ⟨rfl, rfl⟩
      rw [← HF.out]
      go_wp2_with fail
      refine (at_any _ l 20 4 _ (.inr (.inr (.inl rfl))) HV.out (by rw [HN.out]; omega) (by rw [HN.out]; omega)).mono ?_
      rintro e w' ⟨rfl, rfl⟩
      rw [← HD.out]
      go_wp2_with fail
      refine (at_any _ l 0 4 _ (.inr (.inr (.inl rfl))) HV.out (by rw [HN.out]; omega) (by rw [HN.out]; omega)).mono ?_
      rintro e w' ⟨rfl, rfl⟩
      rw [← HM.out]
      go_wp2
      go_ret
      exact ⟨by rw [HE.out]; rfl, rfl⟩
  · have mb : ((m : Int) != 1313162572) = true := by rw [bne_iff_ne]; omega
    have HE := Lib.hid (show formedB l = false from by rw [HR'.out]; exact decide_eq_false (fun h => m1 h.1))
    clear m1
    go_enter Tryz.func75, Tryz.ntmps75
    go_wp2_with fail
    refine (at_any _ l 4 4 _ (.inr (.inr (.inl rfl))) HV.out (by rw [HN.out]; omega) (by rw [HN.out]; omega)).mono ?_
    rintro e w' ⟨rfl, rfl⟩
    rw [← HF.out]
    go_wp2_with fail
    refine (at_any _ l 20 4 _ (.inr (.inr (.inl rfl))) HV.out (by rw [HN.out]; omega) (by rw [HN.out]; omega)).mono ?_
    rintro e w' ⟨rfl, rfl⟩
    rw [← HD.out]
    go_wp2_with fail
    refine (at_any _ l 0 4 _ (.inr (.inr (.inl rfl))) HV.out (by rw [HN.out]; omega) (by rw [HN.out]; omega)).mono ?_
    rintro e w' ⟨rfl, rfl⟩
    rw [← HM.out]
    go_wp2
    go_ret
    exact ⟨by rw [HE.out]; rfl, rfl⟩

end Go.Proofs.YtoblbipkkdiddaaGreatDoor.Nd
end

section
namespace Go.Proofs.YtoblbipkkdiddaaGreatDoor.Nd
open Go.RowKit Go.Cor

/-- No needle. -/
abbrev nzero : Value := .agg #[.int .u64 0, .int .u32 0, .bool false, .slice none 0 0]

theorem get_bad1 (v : Value) (l : List UInt8) (w : World) (hv : IsB w v l) (h : l.length < 32) :
    Calls Tryz.prog 44 #[v] w fun e w' => e = .returned (.tuple #[nzero, .int .i64 0, err 3]) ∧ Below w.heap.size w w' := by
  obtain ⟨x, cap, rfl, hlc, hcm⟩ := hv.at_len rfl
  clear hv
  go_enter Tryz.func44, Tryz.ntmps44
  go_wp2
  exact bodyPost_ret (v := .tuple #[nzero, .int .i64 0, err 3]) (by simp [results, Tryz.results44, go_sem]) rfl ⟨rfl, (Below.refl _ _).alloc (Nat.le_refl _) _⟩

theorem get_bad2 (v : Value) (l : List UInt8) (w : World) (hv : IsB w v l) (hl : l.length ≤ 1099511627776) (h : 32 ≤ l.length) (hf : formedB l = false) :
    Calls Tryz.prog 44 #[v] w fun e w' => e = .returned (.tuple #[nzero, .int .i64 0, err 4]) ∧ Below w.heap.size w w' := by
  obtain ⟨n, hn⟩ : ∃ n : Nat, l.length = n := ⟨_, rfl⟩
  have HV := Lib.hid hv
  obtain ⟨x, cap, rfl, hlc, hcm⟩ := hv.at_len hn
  rw [hn] at h hl
  have HN := Lib.hid hn
  have HF := Lib.hid hf
  clear hv hn hf
  go_enter Tryz.func44, Tryz.ntmps44
  go_wp2_with fail
  refine (formed_any _ l _ (HV.out.mono ((Below.refl _ _).alloc (Nat.le_refl _) _) (Nat.le_refl _)) (by rw [HN.out]; omega) (by rw [HN.out]; omega)).mono ?_
  rintro e w' ⟨rfl, rfl⟩
  rw [HF.out]
  go_wp2
  exact bodyPost_ret (v := .tuple #[nzero, .int .i64 0, err 4]) (by simp [results, Tryz.results44, go_sem]) rfl ⟨rfl, (Below.refl _ _).alloc (Nat.le_refl _) _⟩

set_option maxHeartbeats 1000000 in
theorem get_bad3 (v : Value) (l : List UInt8) (w : World) (hv : IsB w v l) (hl : l.length ≤ 1099511627776) (h : 32 ≤ l.length) (hf : formedB l = true) (ht : l.length < total l) :
    Calls Tryz.prog 44 #[v] w fun e w' => e = .returned (.tuple #[nzero, .int .i64 0, err 3]) ∧ Below w.heap.size w w' := by
  obtain ⟨n, hn⟩ : ∃ n : Nat, l.length = n := ⟨_, rfl⟩
  have HV := Lib.hid hv
  obtain ⟨x, cap, rfl, hlc, hcm⟩ := hv.at_len hn
  rw [hn] at h hl ht
  have HN := Lib.hid hn
  have HF := Lib.hid hf
  have hd := formed_len hf
  have hz := nsize_nat hd
  unfold total at ht
  obtain ⟨d, hdd⟩ : ∃ d : Nat, d = dlen l := ⟨_, rfl⟩
  rw [← hdd] at hd hz ht
  obtain ⟨S, hS⟩ : ∃ S : Nat, S = 32 + d + padn d := ⟨_, rfl⟩
  rw [← hS] at hz ht
  have hp8 := padn_lt d
  have hS2 : S ≤ 5000 := by omega
  have HZ := Lib.hid hz
  have HD := Lib.hid (show d = fld l 20 4 from hdd)
  clear hv hn hf hdd hz hS hp8
  go_enter Tryz.func44, Tryz.ntmps44
  go_wp2_with fail
  refine (formed_any _ l _ (HV.out.mono ((Below.refl _ _).alloc (Nat.le_refl _) _) (Nat.le_refl _)) (by rw [HN.out]; omega) (by rw [HN.out]; omega)).mono ?_
  rintro e w' ⟨rfl, rfl⟩
  rw [HF.out]
  go_wp2_with fail
  refine (at_any _ l 20 4 _ (.inr (.inr (.inl rfl))) (HV.out.mono ((Below.refl _ _).alloc (Nat.le_refl _) _) (Nat.le_refl _)) (by rw [HN.out]; omega) (by rw [HN.out]; omega)).mono ?_
  rintro e w' ⟨rfl, rfl⟩
  rw [← HD.out]
  go_wp2_with fail
  refine (size_any (d : Int) _ (by omega) (by omega)).mono ?_
  rintro e w' ⟨rfl, rfl⟩
  rw [HZ.out]
  go_wp2
  exact bodyPost_ret (v := .tuple #[nzero, .int .i64 0, err 3]) (by simp [results, Tryz.results44, go_sem]) rfl ⟨rfl, (Below.refl _ _).alloc (Nat.le_refl _) _⟩

/-- The world behind Get's first step. -/
abbrev gworld (w : World) : World := w.alloc (.cells #[.int .u64 0, .int .u32 0, .bool false, .slice none 0 0] 48)
theorem gworld_below (w : World) : Below w.heap.size w (gworld w) := (Below.refl _ _).alloc (Nat.le_refl _) _
theorem isB_gw {w : World} {v : Value} {l : List UInt8} (h : IsB w v l) : IsB (gworld w) v l := h.mono (gworld_below w) (Nat.le_refl _)

set_option maxHeartbeats 1000000 in
theorem get_bad4 (v : Value) (l : List UInt8) (w : World) (hv : IsB w v l) (hl : l.length ≤ 1099511627776) (h : 32 ≤ l.length) (hf : formedB l = true) (ht : total l ≤ l.length) (hs : sumOkN l = false) :
    Calls Tryz.prog 44 #[v] w fun e w' => e = .returned (.tuple #[nzero, .int .i64 0, err 5]) ∧ Below w.heap.size w w' := by
  obtain ⟨n, hn⟩ : ∃ n : Nat, l.length = n := ⟨_, rfl⟩
  have HV := Lib.hid hv
  have hlen := fun W => len_B (P := Tryz.prog) hv hn 45 3 5 Tryz.underlying45 W
  rw [hn] at h hl ht
  have HN := Lib.hid hn
  have HF := Lib.hid hf
  have hd := formed_len hf
  have hz := nsize_nat hd
  unfold total at ht
  unfold sumOkN at hs
  have hs := of_decide_eq_false hs
  unfold dataOf at hs
  obtain ⟨d, hdd⟩ : ∃ d : Nat, d = dlen l := ⟨_, rfl⟩
  rw [← hdd] at hd hz ht hs
  obtain ⟨S, hS⟩ : ∃ S : Nat, S = 32 + d + padn d := ⟨_, rfl⟩
  rw [← hS] at hz ht
  have hp8 := padn_lt d
  have hS2 : S ≤ 5000 := by omega
  have hS3 : 32 + d ≤ S := by omega
  have HZ := Lib.hid hz
  have HD := Lib.hid (show d = fld l 20 4 from hdd)
  obtain ⟨s1, h1⟩ : ∃ s : Nat, s = crc (l.take 24 ++ (l.drop 32).take d) := ⟨_, rfl⟩
  obtain ⟨s2, h2⟩ : ∃ s : Nat, s = fld l 24 4 := ⟨_, rfl⟩
  have hs1 : s1 < 4294967296 := by rw [h1]; exact crc_lt _
  have hsb : ((s1 : Int) != (s2 : Int)) = true := by rw [bne_iff_ne]; omega
  have H1 := Lib.hid h1
  have H2 := Lib.hid h2
  obtain ⟨E, hE⟩ : ∃ E : Nat, E = 32 + d := ⟨_, rfl⟩
  have hEi : (32 : Int) + (d : Int) = (E : Int) := by omega
  have hE1 : 32 ≤ E := by omega
  have hE2 : E ≤ S := by omega
  obtain ⟨sA, rA, iA⟩ := slice_h_B (P := Tryz.prog) hv 45 5 Tryz.underlying45 Tryz.sizeU8 24 (by omega)
  obtain ⟨sD, rD, iD⟩ := slice_lh_B (P := Tryz.prog) hv 45 5 Tryz.underlying45 Tryz.sizeU8 32 E hE1 (by omega)
  have rA' : ∀ W, (Instr.slice 45 v none (some (.int .i64 24)) none).run Tryz.prog W = .ok sA W := rA
  have rD' : ∀ W, (Instr.slice 45 v (some (.int .i64 32)) (some (.int .i64 (E : Int))) none).run Tryz.prog W = .ok sD W := rD
  rw [show E - 32 = d from by omega] at iD
  have HAd := Lib.hid (show IsB (gworld w).drew sA (l.take 24) from isB_gw iA)
  have HDd := Lib.hid (show IsB (gworld w).drew sD ((l.drop 32).take d) from isB_gw iD)
  have HVd := Lib.hid (show IsB (gworld w).drew v l from isB_gw hv)
  have hl1 := Lib.hid (show (l.take 24).length ≤ 1099511627776 from by rw [List.length_take]; omega)
  have hl2 := Lib.hid (show ((l.drop 32).take d).length ≤ 1099511627776 from by rw [List.length_take]; omega)
  have hl3 := Lib.hid (show l.length ≤ 1099511627776 from by omega)
  have hl4 := Lib.hid (show 32 ≤ l.length from by omega)
  have hw1 : IntKind.u64.wrap (s1 : Int) = (s1 : Int) := by rw [IntKind.wrap_u64]; omega
  clear hv hn hf hdd hz hS hp8 hs h1 h2 hE hS3 rA rD iA iD
  go_enter Tryz.func44, Tryz.ntmps44
  go_wp2_with fail
  refine (formed_any _ l _ (isB_gw HV.out) (by rw [HN.out]; omega) (by rw [HN.out]; omega)).mono ?_
  rintro e w' ⟨rfl, rfl⟩
  rw [HF.out]
  go_wp2_with fail
  refine (at_any _ l 20 4 _ (.inr (.inr (.inl rfl))) (isB_gw HV.out) (by rw [HN.out]; omega) (by rw [HN.out]; omega)).mono ?_
  rintro e w' ⟨rfl, rfl⟩
  rw [← HD.out]
  go_wp2_with fail
  refine (size_any (d : Int) _ (by omega) (by omega)).mono ?_
  rintro e w' ⟨rfl, rfl⟩
  rw [HZ.out]
  go_wp2_with fail
  go_region_held3 (fun _ => True) (trivial) (first
    | (go_at_call 77; with_reducible refine (sumOf_any sA sD (l.take 24) ((l.drop 32).take d) _ HAd.out HDd.out hl1.out hl2.out).mono ?_; rintro e w' ⟨rfl, rfl⟩; rw [← H1.out])
    | (go_at_call 76; with_reducible refine (at_24_4 v l _ HVd.out hl3.out hl4.out).mono ?_; rintro e w' ⟨rfl, rfl⟩; rw [← H2.out]))
  go_wp2
  exact bodyPost_ret (v := .tuple #[nzero, .int .i64 0, err 5]) (by simp [results, Tryz.results44, go_sem]) rfl ⟨rfl, (gworld_below w).drew⟩

set_option maxHeartbeats 1000000 in
theorem get_bad5 (v : Value) (l : List UInt8) (w : World) (hv : IsB w v l) (hl : l.length ≤ 1099511627776) (h : 32 ≤ l.length) (hf : formedB l = true) (ht : total l ≤ l.length) (hs : sumOkN l = true) (hzp : zeroB (padOf l) = false) :
    Calls Tryz.prog 44 #[v] w fun e w' => e = .returned (.tuple #[nzero, .int .i64 0, err 4]) ∧ Below w.heap.size w w' := by
  obtain ⟨n, hn⟩ : ∃ n : Nat, l.length = n := ⟨_, rfl⟩
  have HV := Lib.hid hv
  have hlen := fun W => len_B (P := Tryz.prog) hv hn 45 3 5 Tryz.underlying45 W
  rw [hn] at h hl ht
  have HN := Lib.hid hn
  have HF := Lib.hid hf
  have hd := formed_len hf
  have hz := nsize_nat hd
  unfold total at ht
  unfold sumOkN at hs
  have hs := of_decide_eq_true hs
  unfold dataOf at hs
  obtain ⟨d, hdd⟩ : ∃ d : Nat, d = dlen l := ⟨_, rfl⟩
  rw [← hdd] at hd hz ht hs
  obtain ⟨S, hS⟩ : ∃ S : Nat, S = 32 + d + padn d := ⟨_, rfl⟩
  rw [← hS] at hz ht
  have hp8 := padn_lt d
  have hS2 : S ≤ 5000 := by omega
  have hS3 : 32 + d ≤ S := by omega
  have HZ := Lib.hid hz
  have HD := Lib.hid (show d = fld l 20 4 from hdd)
  obtain ⟨s1, h1⟩ : ∃ s : Nat, s = crc (l.take 24 ++ (l.drop 32).take d) := ⟨_, rfl⟩
  obtain ⟨s2, h2⟩ : ∃ s : Nat, s = fld l 24 4 := ⟨_, rfl⟩
  have hs1 : s1 < 4294967296 := by rw [h1]; exact crc_lt _
  have hsb : ((s1 : Int) != (s2 : Int)) = false := by rw [bne_eq_false_iff_eq]; omega
  have H1 := Lib.hid h1
  have H2 := Lib.hid h2
  obtain ⟨E, hE⟩ : ∃ E : Nat, E = 32 + d := ⟨_, rfl⟩
  have hEi : (32 : Int) + (d : Int) = (E : Int) := by omega
  have hE1 : 32 ≤ E := by omega
  have hE2 : E ≤ S := by omega
  obtain ⟨sA, rA, iA⟩ := slice_h_B (P := Tryz.prog) hv 45 5 Tryz.underlying45 Tryz.sizeU8 24 (by omega)
  obtain ⟨sD, rD, iD⟩ := slice_lh_B (P := Tryz.prog) hv 45 5 Tryz.underlying45 Tryz.sizeU8 32 E hE1 (by omega)
  have rA' : ∀ W, (Instr.slice 45 v none (some (.int .i64 24)) none).run Tryz.prog W = .ok sA W := rA
  have rD' : ∀ W, (Instr.slice 45 v (some (.int .i64 32)) (some (.int .i64 (E : Int))) none).run Tryz.prog W = .ok sD W := rD
  rw [show E - 32 = d from by omega] at iD
  have HAd := Lib.hid (show IsB (gworld w).drew sA (l.take 24) from isB_gw iA)
  have HDd := Lib.hid (show IsB (gworld w).drew sD ((l.drop 32).take d) from isB_gw iD)
  have HVd := Lib.hid (show IsB (gworld w).drew v l from isB_gw hv)
  obtain ⟨sP, rP, iP⟩ := slice_lh_B (P := Tryz.prog) hv 45 5 Tryz.underlying45 Tryz.sizeU8 E S hE2 (by omega)
  have hpe : (l.drop E).take (S - E) = padOf l := by unfold padOf; rw [← hdd, hE, hS]; congr 1; omega
  rw [hpe] at iP
  have HPd := Lib.hid (show IsB (gworld w).drew sP (padOf l) from isB_gw iP)
  have hl5 := Lib.hid (show (padOf l).length ≤ 1099511627776 from by unfold padOf; rw [List.length_take]; have := padn_lt (dlen l); omega)
  have HZP := Lib.hid hzp
  clear iP hpe hzp
  have hl1 := Lib.hid (show (l.take 24).length ≤ 1099511627776 from by rw [List.length_take]; omega)
  have hl2 := Lib.hid (show ((l.drop 32).take d).length ≤ 1099511627776 from by rw [List.length_take]; omega)
  have hl3 := Lib.hid (show l.length ≤ 1099511627776 from by omega)
  have hl4 := Lib.hid (show 32 ≤ l.length from by omega)
  have hw1 : IntKind.u64.wrap (s1 : Int) = (s1 : Int) := by rw [IntKind.wrap_u64]; omega
  clear hv hn hf hdd hz hS hp8 hs h1 h2 hE hS3 rA rD iA iD
  go_enter Tryz.func44, Tryz.ntmps44
  go_wp2_with fail
  refine (formed_any _ l _ (isB_gw HV.out) (by rw [HN.out]; omega) (by rw [HN.out]; omega)).mono ?_
  rintro e w' ⟨rfl, rfl⟩
  rw [HF.out]
  go_wp2_with fail
  refine (at_any _ l 20 4 _ (.inr (.inr (.inl rfl))) (isB_gw HV.out) (by rw [HN.out]; omega) (by rw [HN.out]; omega)).mono ?_
  rintro e w' ⟨rfl, rfl⟩
  rw [← HD.out]
  go_wp2_with fail
  refine (size_any (d : Int) _ (by omega) (by omega)).mono ?_
  rintro e w' ⟨rfl, rfl⟩
  rw [HZ.out]
  go_wp2_with fail
  go_region_held3 (fun _ => True) (trivial) (first
    | (go_at_call 77; with_reducible refine (sumOf_any sA sD (l.take 24) ((l.drop 32).take d) _ HAd.out HDd.out hl1.out hl2.out).mono ?_; rintro e w' ⟨rfl, rfl⟩; rw [← H1.out])
    | (go_at_call 76; with_reducible refine (at_24_4 v l _ HVd.out hl3.out hl4.out).mono ?_; rintro e w' ⟨rfl, rfl⟩; rw [← H2.out]))
  go_wp2_with fail
  refine (zero_anyB _ _ _ HPd.out hl5.out).mono ?_
  rintro e w' ⟨rfl, rfl⟩
  rw [HZP.out]
  go_wp2
  exact bodyPost_ret (v := .tuple #[nzero, .int .i64 0, err 4]) (by simp [results, Tryz.results44, go_sem]) rfl ⟨rfl, (gworld_below w).drew⟩

end Go.Proofs.YtoblbipkkdiddaaGreatDoor.Nd
end

section
namespace Go.Proofs.YtoblbipkkdiddaaGreatDoor.Nd
open Go.RowKit Go.Cor

/-- The world behind the needle's own block. -/
abbrev gworld2 (w : World) : World := (gworld w).alloc (.cells #[.int .u64 0, .int .u32 0, .bool false, .slice none 0 0] 48)
theorem isB_gw2 {w : World} {v : Value} {l : List UInt8} (h : IsB (gworld w) v l) : IsB (gworld2 w) v l := h.mono ((Below.refl _ _).alloc (Nat.le_refl _) _) (Nat.le_refl _)
theorem gbox2 {w wc : World} (hb : Below (gworld2 w).drew.drew.heap.size (gworld2 w).drew.drew wc) :
    wc.cell? ⟨w.heap.size, 0, none⟩ = some (.int .u64 0) ∧ wc.cell? ⟨w.heap.size, 1, none⟩ = some (.int .u32 0) ∧ wc.cell? ⟨w.heap.size, 2, none⟩ = some (.bool false) ∧ wc.cell? ⟨w.heap.size, 3, none⟩ = some (.slice none 0 0) ∧
    wc.cell? ⟨w.heap.size + 1, 0, none⟩ = some (.int .u64 0) ∧ wc.cell? ⟨w.heap.size + 1, 1, none⟩ = some (.int .u32 0) ∧ wc.cell? ⟨w.heap.size + 1, 2, none⟩ = some (.bool false) ∧ wc.cell? ⟨w.heap.size + 1, 3, none⟩ = some (.slice none 0 0) ∧
    (∀ o, wc.frozen? ⟨w.heap.size, o, none⟩ = false) ∧ (∀ o, wc.frozen? ⟨w.heap.size + 1, o, none⟩ = false) ∧ w.heap.size + 1 < wc.heap.size := by
  have hs : (gworld2 w).drew.drew.heap.size = w.heap.size + 2 := by show (gworld2 w).heap.size = _; simp
  have c : ∀ b o, b < w.heap.size + 2 → wc.cell? ⟨b, o, none⟩ = (gworld2 w).cell? ⟨b, o, none⟩ := fun b o h => hb.cell (p := ⟨b, o, none⟩) (by rw [hs]; exact h)
  have f : ∀ b o, b < w.heap.size + 2 → wc.frozen? ⟨b, o, none⟩ = (gworld2 w).frozen? ⟨b, o, none⟩ := fun b o h => hb.frozen (p := ⟨b, o, none⟩) (by rw [hs]; exact h)
  refine ⟨?_, ?_, ?_, ?_, ?_, ?_, ?_, ?_, fun o => ?_, fun o => ?_, ?_⟩
  any_goals (rw [c _ _ (by omega)]; go_simp)
  · rw [f _ _ (by omega)]
    go_simp
  · rw [f _ _ (by omega)]
    go_simp
  · have := hb.size
    omega

theorem isB_zalloc {w : World} {v : Value} {l : List UInt8} (h : IsB w v l) : IsB (w.alloc (.cells #[.int .u64 0, .int .u32 0, .bool false, .slice none 0 0] 48)) v l := h.mono ((Below.refl _ _).alloc (Nat.le_refl _) _) (Nat.le_refl _)
/-- What the needle's own block holds, and the result's. -/
def GotBox (w : World) (l : List UInt8) (d k c : Nat) (g : Bool) (p : Value) (wx : World) : Prop :=
  ∃ b xc cc, p = .pointer (some ⟨b, 0, none⟩) ∧ wx.cell? ⟨b, 0, none⟩ = some (.int .u64 (k : Int)) ∧ wx.cell? ⟨b, 1, none⟩ = some (.int .u32 (c : Int)) ∧ wx.cell? ⟨b, 2, none⟩ = some (.bool g) ∧ wx.cell? ⟨b, 3, none⟩ = some (.slice xc d cc) ∧
    wx.ownsRow (w.heap.size + 1) 5 1 (.slice xc d cc) d (bvs l) ∧
    wx.cell? ⟨w.heap.size, 0, none⟩ = some (.int .u64 0) ∧ wx.cell? ⟨w.heap.size, 1, none⟩ = some (.int .u32 0) ∧ wx.cell? ⟨w.heap.size, 2, none⟩ = some (.bool false) ∧ wx.cell? ⟨w.heap.size, 3, none⟩ = some (.slice none 0 0) ∧
    (∀ o, wx.frozen? ⟨w.heap.size, o, none⟩ = false) ∧ Below w.heap.size w wx ∧ w.heap.size < b ∧ b < wx.heap.size
theorem gbox1 {w wc : World} (hb : Below (gworld w).drew.drew.heap.size (gworld w).drew.drew wc) :
    wc.cell? ⟨w.heap.size, 0, none⟩ = some (.int .u64 0) ∧ wc.cell? ⟨w.heap.size, 1, none⟩ = some (.int .u32 0) ∧ wc.cell? ⟨w.heap.size, 2, none⟩ = some (.bool false) ∧ wc.cell? ⟨w.heap.size, 3, none⟩ = some (.slice none 0 0) ∧
    (∀ o, wc.frozen? ⟨w.heap.size, o, none⟩ = false) ∧ w.heap.size < wc.heap.size := by
  have hs : (gworld w).drew.drew.heap.size = w.heap.size + 1 := by show (gworld w).heap.size = _; simp
  have c : ∀ b o, b < w.heap.size + 1 → wc.cell? ⟨b, o, none⟩ = (gworld w).cell? ⟨b, o, none⟩ := fun b o h => hb.cell (p := ⟨b, o, none⟩) (by rw [hs]; exact h)
  have f : ∀ b o, b < w.heap.size + 1 → wc.frozen? ⟨b, o, none⟩ = (gworld w).frozen? ⟨b, o, none⟩ := fun b o h => hb.frozen (p := ⟨b, o, none⟩) (by rw [hs]; exact h)
  refine ⟨?_, ?_, ?_, ?_, fun o => ?_, ?_⟩
  any_goals (rw [c _ _ (by omega)]; go_simp)
  · rw [f _ _ (by omega)]
    go_simp
  · have := hb.size
    omega

theorem gotBox_new {w wc : World} {l : List UInt8} {d k c : Nat} {g : Bool} {xc : Option Addr} {cc : Nat}
    (hown : wc.ownsRow (gworld w).drew.drew.heap.size 5 1 (.slice xc d cc) d (bvs l)) (hb : Below (gworld w).drew.drew.heap.size (gworld w).drew.drew wc) :
    GotBox w l d k c g (.pointer (some ⟨wc.heap.size, 0, none⟩)) (wc.alloc (.cells #[.int .u64 (k : Int), .int .u32 (c : Int), .bool g, .slice xc d cc] 48)) := by
  obtain ⟨z0, z1, z2, z3, g0, hs⟩ := gbox1 hb
  have hsz : (gworld w).drew.drew.heap.size = w.heap.size + 1 := by show (gworld w).heap.size = _; simp
  have hb1 : Below wc.heap.size wc (wc.alloc (.cells #[.int .u64 (k : Int), .int .u32 (c : Int), .bool g, .slice xc d cc] 48)) := (Below.refl _ _).alloc (Nat.le_refl _) _
  refine ⟨wc.heap.size, xc, cc, rfl, ?_, ?_, ?_, ?_, ownsRow_base (hown.alloc _) (by omega), ?_, ?_, ?_, ?_, fun o => ?_, ?_, hs, by simp⟩
  any_goals go_simp
  · exact ((gworld_below w).drew.drew).trans ((hb.mono (by omega)).trans (hb1.mono (by omega)))
theorem gotBox_set {w wc : World} {l : List UInt8} {d k c : Nat} {g : Bool} {xc : Option Addr} {cc : Nat}
    (hown : wc.ownsRow (gworld2 w).drew.drew.heap.size 5 1 (.slice xc d cc) d (bvs l)) (hb : Below (gworld2 w).drew.drew.heap.size (gworld2 w).drew.drew wc) :
    GotBox w l d k c g (.pointer (some ⟨w.heap.size + 1, 0, none⟩)) ((((wc.setCell ⟨w.heap.size + 1, 0, none⟩ (.int .u64 (k : Int))).setCell ⟨w.heap.size + 1, 1, none⟩ (.int .u32 (c : Int))).setCell ⟨w.heap.size + 1, 2, none⟩ (.bool g)).setCell ⟨w.heap.size + 1, 3, none⟩ (.slice xc d cc)) := by
  obtain ⟨z0, z1, z2, z3, y0, y1, y2, y3, g0, g1, hs⟩ := gbox2 hb
  have hsz : (gworld2 w).drew.drew.heap.size = w.heap.size + 2 := by show (gworld2 w).heap.size = _; simp
  have ho : ∀ (W : World) (p : Addr) (u : Value), p.block < w.heap.size + 2 → W.ownsRow (w.heap.size + 2) 5 1 (.slice xc d cc) d (bvs l) → (W.setCell p u).ownsRow (w.heap.size + 2) 5 1 (.slice xc d cc) d (bvs l) := fun W p u hp h => ownsRow_setCell_below h hp u
  rw [hsz] at hown
  refine ⟨w.heap.size + 1, xc, cc, rfl, ?_, ?_, ?_, ?_, ownsRow_base (ho _ _ _ (by simp) (ho _ _ _ (by simp) (ho _ _ _ (by simp) (ho _ _ _ (by simp) hown)))) (by omega), ?_, ?_, ?_, ?_, fun o => ?_, ?_, by omega, by simpa using hs⟩
  any_goals go_simp
  · have h2 : Below w.heap.size w (gworld2 w) := (gworld_below w).alloc (by simp) _
    have h3 : Below w.heap.size w wc := h2.drew.drew.trans (hb.mono (by omega))
    exact (((h3.setCell (by simp) _).setCell (by simp) _).setCell (by simp) _).setCell (by simp) _
theorem got_fin {w wx : World} {U : TypeId} {x : Option Addr} {d cc : Nat} {xs : List Value} {u0 u1 u2 u3 : Value} (h : wx.ownsRow (w.heap.size + 1) U 1 (.slice x d cc) d xs) :
    ((((wx.setCell ⟨w.heap.size, 0, none⟩ u0).setCell ⟨w.heap.size, 1, none⟩ u1).setCell ⟨w.heap.size, 2, none⟩ u2).setCell ⟨w.heap.size, 3, none⟩ u3).ownsRow w.heap.size U 1 (.slice x d cc) d xs :=
  ownsRow_base (ownsRow_setCell_below (ownsRow_setCell_below (ownsRow_setCell_below (ownsRow_setCell_below h (Nat.lt_succ_self _) _) (Nat.lt_succ_self _) _) (Nat.lt_succ_self _) _) (Nat.lt_succ_self _) _) (Nat.le_succ _)
theorem got_bel {w wx : World} {u0 u1 u2 u3 : Value} (h : Below w.heap.size w wx) :
    Below w.heap.size w ((((wx.setCell ⟨w.heap.size, 0, none⟩ u0).setCell ⟨w.heap.size, 1, none⟩ u1).setCell ⟨w.heap.size, 2, none⟩ u2).setCell ⟨w.heap.size, 3, none⟩ u3) :=
  (((h.setCell (Nat.le_refl _) _).setCell (Nat.le_refl _) _).setCell (Nat.le_refl _) _).setCell (Nat.le_refl _) _

set_option maxHeartbeats 1000000 in
theorem get_okN (v : Value) (l : List UInt8) (w : World) (hv : IsB w v l) (hl : l.length ≤ 1099511627776) (h : 32 ≤ l.length) (hf : formedB l = true) (ht : total l ≤ l.length) (hs : sumOkN l = true) (hzp : zeroB (padOf l) = true) :
    Calls Tryz.prog 44 #[v] w fun e w' => ∃ v', e = .returned (.tuple #[nval (getN l) v', .int .i64 (total l : Nat), .nilIface]) ∧ w'.ownsRow w.heap.size 5 1 v' (dataOf l).length (bvs (dataOf l)) ∧ Below w.heap.size w w' := by
  obtain ⟨n, hn⟩ : ∃ n : Nat, l.length = n := ⟨_, rfl⟩
  have HV := Lib.hid hv
  have hlen := fun W => len_B (P := Tryz.prog) hv hn 45 3 5 Tryz.underlying45 W
  rw [hn] at h hl ht
  have HN := Lib.hid hn
  have HF := Lib.hid hf
  have hd := formed_len hf
  have hz := nsize_nat hd
  unfold total at ht
  unfold sumOkN at hs
  have hs := of_decide_eq_true hs
  unfold dataOf at hs
  obtain ⟨d, hdd⟩ : ∃ d : Nat, d = dlen l := ⟨_, rfl⟩
  rw [← hdd] at hd hz ht hs
  obtain ⟨S, hS⟩ : ∃ S : Nat, S = 32 + d + padn d := ⟨_, rfl⟩
  rw [← hS] at hz ht
  have hp8 := padn_lt d
  have hS2 : S ≤ 5000 := by omega
  have hS3 : 32 + d ≤ S := by omega
  have HZ := Lib.hid hz
  have HD := Lib.hid (show d = fld l 20 4 from hdd)
  obtain ⟨s1, h1⟩ : ∃ s : Nat, s = crc (l.take 24 ++ (l.drop 32).take d) := ⟨_, rfl⟩
  obtain ⟨s2, h2⟩ : ∃ s : Nat, s = fld l 24 4 := ⟨_, rfl⟩
  have hs1 : s1 < 4294967296 := by rw [h1]; exact crc_lt _
  have hsb : ((s1 : Int) != (s2 : Int)) = false := by rw [bne_eq_false_iff_eq]; omega
  have H1 := Lib.hid h1
  have H2 := Lib.hid h2
  obtain ⟨E, hE⟩ : ∃ E : Nat, E = 32 + d := ⟨_, rfl⟩
  have hEi : (32 : Int) + (d : Int) = (E : Int) := by omega
  have hE1 : 32 ≤ E := by omega
  have hE2 : E ≤ S := by omega
  obtain ⟨sA, rA, iA⟩ := slice_h_B (P := Tryz.prog) hv 45 5 Tryz.underlying45 Tryz.sizeU8 24 (by omega)
  obtain ⟨sD, rD, iD⟩ := slice_lh_B (P := Tryz.prog) hv 45 5 Tryz.underlying45 Tryz.sizeU8 32 E hE1 (by omega)
  have rA' : ∀ W, (Instr.slice 45 v none (some (.int .i64 24)) none).run Tryz.prog W = .ok sA W := rA
  have rD' : ∀ W, (Instr.slice 45 v (some (.int .i64 32)) (some (.int .i64 (E : Int))) none).run Tryz.prog W = .ok sD W := rD
  rw [show E - 32 = d from by omega] at iD
  have HAd := Lib.hid (show IsB (gworld w).drew sA (l.take 24) from isB_gw iA)
  have HDd := Lib.hid (show IsB (gworld w).drew sD ((l.drop 32).take d) from isB_gw iD)
  have HVd := Lib.hid (show IsB (gworld w).drew v l from isB_gw hv)
  obtain ⟨sP, rP, iP⟩ := slice_lh_B (P := Tryz.prog) hv 45 5 Tryz.underlying45 Tryz.sizeU8 E S hE2 (by omega)
  have hpe : (l.drop E).take (S - E) = padOf l := by unfold padOf; rw [← hdd, hE, hS]; congr 1; omega
  rw [hpe] at iP
  have HPd := Lib.hid (show IsB (gworld w).drew sP (padOf l) from isB_gw iP)
  have hl5 := Lib.hid (show (padOf l).length ≤ 1099511627776 from by unfold padOf; rw [List.length_take]; have := padn_lt (dlen l); omega)
  have HZP := Lib.hid hzp
  clear iP hpe hzp
  obtain ⟨k, hk⟩ : ∃ k : Nat, k = fld l 8 8 := ⟨_, rfl⟩
  obtain ⟨c, hc⟩ : ∃ c : Nat, c = fld l 16 4 := ⟨_, rfl⟩
  obtain ⟨f, hf4⟩ : ∃ f : Nat, f = fld l 4 4 := ⟨_, rfl⟩
  have hc4 : c < 4294967296 := by rw [hc]; exact fld4_lt l 16
  have hwc : IntKind.u32.wrap (c : Int) = (c : Int) := IntWalk.u32_in _ (by omega)
  have HK := Lib.hid hk
  have HC := Lib.hid hc
  have HF4 := Lib.hid hf4
  obtain ⟨g, hg⟩ : ∃ g : Bool, g = decide (f = 1) := ⟨_, rfl⟩
  have hgb : ((f : Int) == 1) = g := by rw [hg, Bool.eq_iff_iff]; simp; omega
  have HG := Lib.hid hg
  have HTot := Lib.hid (show total l = S from by rw [hS, hdd]; rfl)
  have HDa := Lib.hid (show dataOf l = (l.drop 32).take d from by rw [hdd]; rfl)
  have HRes := Lib.hid (show ∀ v', nval (getN l) v' = .agg #[.int .u64 (k : Int), .int .u32 (c : Int), .bool g, v'] from fun v' => by rw [hk, hc, hg, hf4]; rfl)
  clear hk hc hf4 hc4 hg
  have HV2 := Lib.hid (show IsB (gworld w).drew.drew v l from isB_gw hv)
  have HV3 := Lib.hid (show IsB (gworld2 w).drew.drew v l from isB_gw2 (isB_gw hv))
  have HD1 := Lib.hid (show IsB (gworld w).drew.drew sD ((l.drop 32).take d) from HDd.out)
  have HD2 := Lib.hid (show IsB (gworld2 w).drew.drew sD ((l.drop 32).take d) from isB_gw2 HDd.out)
  have hl1 := Lib.hid (show (l.take 24).length ≤ 1099511627776 from by rw [List.length_take]; omega)
  have hl2 := Lib.hid (show ((l.drop 32).take d).length ≤ 1099511627776 from by rw [List.length_take]; omega)
  have hl6 := Lib.hid (show ((l.drop 32).take d).length = d from by rw [List.length_take, List.length_drop]; omega)
  have hl3 := Lib.hid (show l.length ≤ 1099511627776 from by omega)
  have hl4 := Lib.hid (show 32 ≤ l.length from by omega)
  have hw1 : IntKind.u64.wrap (s1 : Int) = (s1 : Int) := by rw [IntKind.wrap_u64]; omega
  clear hv hn hf hdd hz hS hp8 hs h1 h2 hE hS3 rA rD iA iD
  go_enter Tryz.func44, Tryz.ntmps44
  go_wp2_with fail
  refine (formed_any _ l _ (isB_gw HV.out) (by rw [HN.out]; omega) (by rw [HN.out]; omega)).mono ?_
  rintro e w' ⟨rfl, rfl⟩
  rw [HF.out]
  go_wp2_with fail
  refine (at_any _ l 20 4 _ (.inr (.inr (.inl rfl))) (isB_gw HV.out) (by rw [HN.out]; omega) (by rw [HN.out]; omega)).mono ?_
  rintro e w' ⟨rfl, rfl⟩
  rw [← HD.out]
  go_wp2_with fail
  refine (size_any (d : Int) _ (by omega) (by omega)).mono ?_
  rintro e w' ⟨rfl, rfl⟩
  rw [HZ.out]
  go_wp2_with fail
  go_region_held3 (fun _ => True) (trivial) (first
    | (go_at_call 77; with_reducible refine (sumOf_any sA sD (l.take 24) ((l.drop 32).take d) _ HAd.out HDd.out hl1.out hl2.out).mono ?_; rintro e w' ⟨rfl, rfl⟩; rw [← H1.out])
    | (go_at_call 76; with_reducible refine (at_24_4 v l _ HVd.out hl3.out hl4.out).mono ?_; rintro e w' ⟨rfl, rfl⟩; rw [← H2.out]))
  go_wp2_with fail
  refine (zero_anyB _ _ _ HPd.out hl5.out).mono ?_
  rintro e w' ⟨rfl, rfl⟩
  rw [HZP.out]
  go_upto_region 13 with fail
  go_cut [8] from 52 to 64 (fun p wx => GotBox w ((l.drop 32).take d) d k c g p wx)
  case first =>
    go_wp2_with fail
    go_region_held3 (fun _ => True) (trivial) (first
      | (go_at_call 76; (with_reducible refine (at_8_8 v l _ ?_ hl3.out hl4.out).mono ?_); (first | with_reducible exact HV2.out | with_reducible exact HV3.out | with_reducible exact HVc.out | with_reducible exact HVe.out); rintro e w' ⟨rfl, rfl⟩; rw [← HK.out])
      | (go_at_call 76; (with_reducible refine (at_16_4 v l _ ?_ hl3.out hl4.out).mono ?_); (first | with_reducible exact HV2.out | with_reducible exact HV3.out | with_reducible exact HVc.out | with_reducible exact HVe.out); rintro e w' ⟨rfl, rfl⟩; rw [← HC.out])
      | (go_at_call 76; (with_reducible refine (at_4_4 v l _ ?_ hl3.out hl4.out).mono ?_); (first | with_reducible exact HV2.out | with_reducible exact HV3.out | with_reducible exact HVc.out | with_reducible exact HVe.out); rintro e w' ⟨rfl, rfl⟩; rw [← HF4.out])
      | (go_at_call 79; with_reducible refine (clone_S sD ((l.drop 32).take d) _ d HD2.out hl2.out hl6.out).mono ?_; rintro e wc ⟨xc, cc, rfl, hownc, hbc⟩; obtain ⟨z0, z1, z2, z3, y0, y1, y2, y3, g0, g1, hsc⟩ := gbox2 hbc; have HVc := Lib.hid (HV3.out.mono hbc (Nat.le_refl _)))
      | (go_at_call 79; with_reducible refine (clone_S sD ((l.drop 32).take d) _ d HD1.out hl2.out hl6.out).mono ?_; rintro e wc ⟨xc, cc, rfl, hownc, hbc⟩; obtain ⟨z0, z1, z2, z3, g0, hsc⟩ := gbox1 hbc; have HVc := Lib.hid (HV2.out.mono hbc (Nat.le_refl _)); have HVe := Lib.hid (isB_zalloc HVc.out)))
    all_goals (go_wp2_with fail; go_meet)
    all_goals first | exact gotBox_new hownc hbc | exact gotBox_set hownc hbc
  case rest =>
    obtain ⟨b, xc, cc, rfl, c0, c1, c2, c3, hown, z0, z1, z2, z3, g0, hbel, hwb, hbs⟩ := hcut
    have hbw : b ≠ w.heap.size := by omega
    have HO := Lib.hid hown
    have HB := Lib.hid hbel
    clear hown hbel
    go_wp2
    refine bodyPost_ret (v := .tuple #[.agg #[.int .u64 (k : Int), .int .u32 (c : Int), .bool g, .slice xc d cc], .int .i64 (S : Int), .nilIface]) (by simp [results, Tryz.results44, go_sem, z0, z1, z2, z3]) rfl ⟨_, by rw [HRes.out, HTot.out], ?_, got_bel HB.out⟩
    rw [HDa.out, hl6.out]
    exact got_fin HO.out

end Go.Proofs.YtoblbipkkdiddaaGreatDoor.Nd
end

section
namespace Go.Proofs.YtoblbipkkdiddaaGreatDoor
open Go.RowKit Go.Cor

theorem below_alloc (w : World) (o : Obj) : Below w.heap.size w (w.alloc o) := (Below.refl _ w).alloc (Nat.le_refl _) o
/-- A volume's box: its disk's box, its index's. -/
def vcells (p x : Nat) (s : Vst) : Array Value := #[.pointer (some ⟨p, 0, none⟩), .int .i64 (s.num : Int), .int .i64 (s.gen : Int), .int .i64 (s.epoch : Int), .bool s.shut, .int .i64 (s.most : Int), .int .i64 (s.size : Int), .pointer (some ⟨x, 0, none⟩)]
structure Vp (w : World) (g p x : Nat) (v : Value) (Sd : Nat → Prop) (d : Dsk) (k : Nat) (s : Vst) : Prop where
  box : Blk w g (vcells p x s) 107
  ix : Q.At w x v s.idx
  dk : Dk w p Sd d k
  gx : ¬ Q.own x v g
  gd : ¬ Sd g
  xd : ∀ b, Q.own x v b → ¬ Sd b
/-- A volume; S: the blocks that it lies in, its disk's among them. -/
def Vl (w : World) (g p : Nat) (S : Nat → Prop) (d : Dsk) (k : Nat) (s : Vst) : Prop := ∃ x v Sd, Vp w g p x v Sd d k s ∧ ∀ b, S b ↔ b = g ∨ Q.own x v b ∨ Sd b
/-- What a call leaves. -/
def Vt (w w' : World) (g p : Nat) (S : Nat → Prop) (d' : Dsk) (k' : Nat) (s' : Vst) : Prop := ∃ S' : Nat → Prop, Vl w' g p S' d' k' s' ∧ Kept S w w' ∧ ∀ b, S' b → S b ∨ w.heap.size ≤ b

theorem Vl.lt {w : World} {g p k : Nat} {S : Nat → Prop} {d : Dsk} {s : Vst} (h : Vl w g p S d k s) : ∀ b, S b → b < w.heap.size := by
  obtain ⟨x, v, Sd, h, hS⟩ := h
  intro b hb
  rcases (hS b).1 hb with rfl | hb | hb
  · exact h.box.lt
  · exact h.ix.lt b hb
  · exact h.dk.lt b hb
theorem Vl.kept {S T : Nat → Prop} {w w' : World} {g p k : Nat} {d : Dsk} {s : Vst} (h : Vl w g p S d k s) (hk : Kept T w w') (hT : ∀ b, S b → ¬ T b) : Vl w' g p S d k s := by
  obtain ⟨x, v, Sd, h, hS⟩ := h
  exact ⟨x, v, Sd, ⟨h.box.kept hk (hT g ((hS g).2 (.inl rfl))), h.ix.kept hk (fun b hb => hT b ((hS b).2 (.inr (.inl hb)))), h.dk.kept hk (fun b hb => hT b ((hS b).2 (.inr (.inr hb)))), h.gx, h.gd, h.xd⟩, hS⟩
theorem Vl.below {S : Nat → Prop} {w w' : World} {g p k B : Nat} {d : Dsk} {s : Vst} (h : Vl w g p S d k s) (hb : Below B w w') (hB : w.heap.size ≤ B) : Vl w' g p S d k s := h.kept (Kept.of_below (S := fun _ => False) hb hB) (fun _ _ h => h)
theorem Vl.more {S : Nat → Prop} {w : World} {g p k k' : Nat} {d : Dsk} {s : Vst} (h : Vl w g p S d k s) (hk : k ≤ k') (hs : k' ≤ 90000) : Vl w g p S d k' s := by
  obtain ⟨x, v, Sd, h, hS⟩ := h
  exact ⟨x, v, Sd, ⟨h.box, h.ix, ⟨h.dk.is, Ok.more h.dk.ok hk, hs, h.dk.lt⟩, h.gx, h.gd, h.xd⟩, hS⟩
theorem Vl.up {S : Nat → Prop} {w : World} {g p k : Nat} {d : Dsk} {s : Vst} (h : Vl w g p S d k s) : d.Ok k ∧ k ≤ 90000 := by
  obtain ⟨x, v, Sd, h, hS⟩ := h
  exact ⟨h.dk.ok, h.dk.small⟩
theorem Vt.self {S : Nat → Prop} {w w' : World} {g p k k' : Nat} {d : Dsk} {s : Vst} (h : Vl w g p S d k s) (hb : Below w.heap.size w w') (hk : k ≤ k') (hs : k' ≤ 90000) : Vt w w' g p S d k' s :=
  ⟨S, (h.below hb (Nat.le_refl _)).more hk hs, Kept.of_below hb (Nat.le_refl _), fun _ h => .inl h⟩
theorem Vt.pre {S : Nat → Prop} {w wa w' : World} {g p k' : Nat} {d' : Dsk} {s' : Vst} (hb : Below w.heap.size w wa) (h : Vt wa w' g p S d' k' s') : Vt w w' g p S d' k' s' := by
  obtain ⟨S', h1, h2, h3⟩ := h
  exact ⟨S', h1, (Kept.of_below (S := fun _ => False) hb (Nat.le_refl _)).mono (fun _ _ h => h.elim) |>.trans h2 (fun j hj _ => hj), fun b hb2 => (h3 b hb2).imp id (fun h => Nat.le_trans hb.size h)⟩
theorem Vt.post {S : Nat → Prop} {w w1 w' : World} {g p k' : Nat} {d' : Dsk} {s' : Vst} (h : Vt w w1 g p S d' k' s') (hb : Below w1.heap.size w1 w') : Vt w w' g p S d' k' s' := by
  obtain ⟨S', h1, h2, h3⟩ := h
  exact ⟨S', h1.below hb (Nat.le_refl _), h2.trans (Kept.of_below (S := fun _ => False) hb (Nat.le_refl _)) (fun _ h => h.elim), h3⟩
theorem Vt.trans {S : Nat → Prop} {w w1 w2 : World} {g p k1 k2 : Nat} {d1 d2 : Dsk} {s1 s2 : Vst} (h : Vt w w1 g p S d1 k1 s1) (h2 : ∀ S', Vl w1 g p S' d1 k1 s1 → Vt w1 w2 g p S' d2 k2 s2) : Vt w w2 g p S d2 k2 s2 := by
  obtain ⟨S1, a1, a2, a3⟩ := h
  obtain ⟨S2, b1, b2, b3⟩ := h2 S1 a1
  refine ⟨S2, b1, a2.trans b2 (fun j hj hlt => ?_), fun b hb => ?_⟩
  · rcases a3 j hj with h | h
    · exact h
    · omega
  · rcases b3 b hb with h | h
    · exact a3 b h
    · exact .inr (Nat.le_trans a2.size h)
/-- Its disk alone. -/
theorem Vl.disk {S : Nat → Prop} {w : World} {g p k : Nat} {d : Dsk} {s : Vst} (h : Vl w g p S d k s) : ∃ Sd, Dk w p Sd d k ∧ (∀ b, Sd b → S b) ∧ ∀ w' d' k', Dt w w' p Sd d' k' → Vt w w' g p S d' k' s := by
  obtain ⟨x, v, Sd, h, hS⟩ := h
  refine ⟨Sd, h.dk, fun b hb => (hS b).2 (.inr (.inr hb)), fun w' d' k' hd => ?_⟩
  obtain ⟨Sd', h1, h2, h3⟩ := hd
  refine ⟨fun b => b = g ∨ Q.own x v b ∨ Sd' b, ⟨x, v, Sd', ⟨h.box.kept h2 h.gd, h.ix.kept h2 h.xd, h1, h.gx, fun hg => ?_, fun b hb hb2 => ?_⟩, fun b => Iff.rfl⟩, h2.mono (fun b _ hb => (hS b).2 (.inr (.inr hb))), fun b hb => ?_⟩
  · rcases h3 g hg with h4 | h4
    · exact h.gd h4
    · have := h.box.lt; omega
  · rcases h3 b hb2 with h4 | h4
    · exact h.xd b hb h4
    · have := h.ix.lt b hb; omega
  · rcases hb with rfl | hb | hb
    · exact .inl ((hS _).2 (.inl rfl))
    · exact .inl ((hS _).2 (.inr (.inl hb)))
    · rcases h3 b hb with h4 | h4
      · exact .inl ((hS _).2 (.inr (.inr h4)))
      · exact .inr h4
/-- Its box. -/
theorem Vl.box {S : Nat → Prop} {w : World} {g p k : Nat} {d : Dsk} {s : Vst} (h : Vl w g p S d k s) : ∃ x v, Blk w g (vcells p x s) 107 ∧ Q.At w x v s.idx := by
  obtain ⟨x, v, Sd, h, _⟩ := h
  exact ⟨x, v, h.box, h.ix⟩
theorem vbox_facts {w : World} {g p x : Nat} {s : Vst} {T : TypeId} (h : Blk w g (vcells p x s) T) :
    w.cell? ⟨g, 0, none⟩ = some (.pointer (some ⟨p, 0, none⟩)) ∧ w.cell? ⟨g, 1, none⟩ = some (.int .i64 (s.num : Int)) ∧ w.cell? ⟨g, 2, none⟩ = some (.int .i64 (s.gen : Int)) ∧ w.cell? ⟨g, 3, none⟩ = some (.int .i64 (s.epoch : Int)) ∧
    w.cell? ⟨g, 4, none⟩ = some (.bool s.shut) ∧ w.cell? ⟨g, 5, none⟩ = some (.int .i64 (s.most : Int)) ∧ w.cell? ⟨g, 6, none⟩ = some (.int .i64 (s.size : Int)) ∧ w.cell? ⟨g, 7, none⟩ = some (.pointer (some ⟨x, 0, none⟩)) ∧ (∀ j, w.frozen? ⟨g, j, none⟩ = false) :=
  ⟨h.cell 0 rfl, h.cell 1 rfl, h.cell 2 rfl, h.cell 3 rfl, h.cell 4 rfl, h.cell 5 rfl, h.cell 6 rfl, h.cell 7 rfl, fun j => h.free j⟩

theorem file_v (g p x : Nat) (s : Vst) (w : World) (hs : s.Ok) (hb : Blk w g (vcells p x s) 107) :
    Calls Tryz.prog 46 #[.pointer (some ⟨g, 0, none⟩)] w fun e w' => e = .returned (.string (nmD s.num s.gen)) ∧ ∃ n, w' = w.drewN n := by
  obtain ⟨c0, c1, c2, c3, c4, c5, c6, c7, f⟩ := vbox_facts hb
  have h1 := hs.num9
  have h2 := hs.gen9
  clear hs hb
  go_enter Tryz.func46, Tryz.ntmps46
  go_wp2
  go_quiet (first | exact Calls.quiet_of_same ((names_h s.num s.gen _ h1 h2).mono fun e w' ⟨he, hw⟩ => ⟨he, hw.symm⟩))
  go_wp2
  go_ret
  exact ⟨rfl, _, rfl⟩

/-- What a key has: no position (0), one that says that it is gone (1), a blob's (2). -/
def hasN (o : Option Pos) : Nat := match o with
  | none => 0
  | some p => if p.gone = true then 1 else 2
/-- A result of five cells stands in memory, and one more block behind it. -/
theorem set5_facts {w w1 : World} {B : Nat} {a0 a1 a2 a3 a4 : Value} {T : TypeId} (h : Blk w1 B #[a0, a1, a2, a3, a4] T) (hb : Below B w w1) (u0 u1 u2 u3 u4 : Value) (o : Obj) :
    ((Q.set5 w1 B u0 u1 u2 u3 u4).alloc o).cell? ⟨B, 0, none⟩ = some u0 ∧ ((Q.set5 w1 B u0 u1 u2 u3 u4).alloc o).cell? ⟨B, 1, none⟩ = some u1 ∧ ((Q.set5 w1 B u0 u1 u2 u3 u4).alloc o).cell? ⟨B, 2, none⟩ = some u2 ∧
    ((Q.set5 w1 B u0 u1 u2 u3 u4).alloc o).cell? ⟨B, 3, none⟩ = some u3 ∧ ((Q.set5 w1 B u0 u1 u2 u3 u4).alloc o).cell? ⟨B, 4, none⟩ = some u4 ∧ Below B w ((Q.set5 w1 B u0 u1 u2 u3 u4).alloc o) := by
  have hz := (Q.blk_set5 h u0 u1 u2 u3 u4).alloc o
  obtain ⟨z0, z1, z2, z3, z4, _⟩ := Q.blk5_facts hz
  have hs := Q.below_set5 (u0 := u0) (u1 := u1) (u2 := u2) (u3 := u3) (u4 := u4) hb (Nat.le_refl B)
  exact ⟨z0, z1, z2, z3, z4, hs.alloc (Nat.le_of_lt ((Q.blk_set5 h u0 u1 u2 u3 u4).lt)) o⟩
set_option maxRecDepth 100000 in
set_option maxHeartbeats 1000000 in
theorem find_v (g p x : Nat) (v : Value) (s : Vst) (key : Nat) (w : World) (hs : s.Ok) (hb : Blk w g (vcells p x s) 107) (hx : Q.At w x v s.idx) :
    Calls Tryz.prog 48 #[.pointer (some ⟨g, 0, none⟩), .int .u64 (key : Int)] w fun e w' =>
      e = .returned (.tuple #[Q.pval ((fnd s.idx key).getD pzero), .int .i64 (hasN (fnd s.idx key) : Int)]) ∧ Below w.heap.size w w' := by
  have HB := Lib.hid hb
  have HX := Lib.hid hx
  have hl : s.idx.length ≤ 1048576 := by have := s.idx_len; have := hs.few; omega
  have HA := Lib.hid ((below_alloc w (.cells #[.int .u64 0, .int .i64 0, .int .i64 0, .int .u32 0, .bool false] 83)))
  obtain ⟨c0, c1, c2, c3, c4, c5, c6, c7, f⟩ := vbox_facts (hb.below HA.out hb.lt)
  obtain ⟨r, hr⟩ : ∃ r, fnd s.idx key = r := ⟨_, rfl⟩
  rw [hr]
  have HR := Lib.hid hr
  clear hb hx hs hr
  go_enter Tryz.func48, Tryz.ntmps48
  go_wp2_with fail
  refine (Q.find_any _ v s.idx key _ (.at x v s.idx (HX.out.below HA.out (Nat.le_refl _))) hl).mono ?_
  rintro e w1 ⟨rfl, hb1⟩
  rw [HR.out]
  have HZ := Lib.hid ((Blk.new w #[.int .u64 0, .int .i64 0, .int .i64 0, .int .u32 0, .bool false] 83).below hb1 (by simp))
  have HB1 := Lib.hid (HA.out.trans (hb1.mono HA.out.size))
  have hlt : w.heap.size < w1.heap.size := by have := hb1.size; simp at this; omega
  clear hb1 c0 c1 c2 c3 c4 c5 c6 c7 f
  obtain ⟨z0, z1, z2, z3, z4, zf⟩ := Q.blk5_facts HZ.out
  cases r with
  | none =>
    rw [show Q.foundE (none : Option Pos) = .iface 92 (.int .i64 6) from rfl, Option.getD_none, show Q.pval pzero = .agg #[.int .u64 0, .int .i64 0, .int .i64 0, .int .u32 0, .bool false] from rfl]
    go_wp2
    have hF := set5_facts HZ.out HB1.out (.int .u64 0) (.int .i64 0) (.int .i64 0) (.int .u32 0) (.bool false) (.cells #[.int .u64 0, .int .i64 0, .int .i64 0, .int .u32 0, .bool false] 83)
    unfold Q.set5 at hF
    obtain ⟨y0, y1, y2, y3, y4, yb⟩ := hF
    exact bodyPost_ret (v := .tuple #[Q.pval pzero, .int .i64 0]) (by simp [results, Tryz.results48, go_sem, y0, y1, y2, y3, y4, pzero]) rfl ⟨rfl, yb⟩
  | some q =>
    obtain ⟨qk, qo, ql, qc, qg⟩ := q
    rw [show Q.foundE (some (⟨qk, qo, ql, qc, qg⟩ : Pos)) = .nilIface from rfl, Option.getD_some]
    cases qg with
    | true =>
      go_wp2
      have hF := set5_facts HZ.out HB1.out (.int .u64 (qk : Int)) (.int .i64 qo) (.int .i64 ql) (.int .u32 (qc : Int)) (.bool true) (.cells #[.int .u64 (qk : Int), .int .i64 qo, .int .i64 ql, .int .u32 (qc : Int), .bool true] 83)
      unfold Q.set5 at hF
      obtain ⟨y0, y1, y2, y3, y4, yb⟩ := hF
      exact bodyPost_ret (v := .tuple #[Q.pval ⟨qk, qo, ql, qc, true⟩, .int .i64 1]) (by simp [results, Tryz.results48, go_sem, y0, y1, y2, y3, y4]) rfl ⟨rfl, yb⟩
    | false =>
      go_wp2
      have hF := set5_facts HZ.out HB1.out (.int .u64 (qk : Int)) (.int .i64 qo) (.int .i64 ql) (.int .u32 (qc : Int)) (.bool false) (.cells #[.int .u64 (qk : Int), .int .i64 qo, .int .i64 ql, .int .u32 (qc : Int), .bool false] 83)
      unfold Q.set5 at hF
      obtain ⟨y0, y1, y2, y3, y4, yb⟩ := hF
      exact bodyPost_ret (v := .tuple #[Q.pval ⟨qk, qo, ql, qc, false⟩, .int .i64 2]) (by simp [results, Tryz.results48, go_sem, y0, y1, y2, y3, y4]) rfl ⟨rfl, yb⟩

/-- What a call by a key and a cookie meets, and the position. -/
def blobN (o : Option Pos) (c : Nat) : Nat := match o with
  | none => 6
  | some p => if p.gone = true then 7 else if p.cookie ≠ c then 9 else 0
set_option maxRecDepth 100000 in
set_option maxHeartbeats 1000000 in
theorem blob_bad (g p x : Nat) (v : Value) (s : Vst) (key c : Nat) (w : World) (hs : s.Ok) (hb : Blk w g (vcells p x s) 107) (hx : Q.At w x v s.idx) (hn : blobN (fnd s.idx key) c ≠ 0) :
    Calls Tryz.prog 42 #[.pointer (some ⟨g, 0, none⟩), .int .u64 (key : Int), .int .u32 (c : Int)] w fun e w' =>
      e = .returned (.tuple #[Q.pval pzero, ercode (blobN (fnd s.idx key) c)]) ∧ Below w.heap.size w w' := by
  have HB := Lib.hid hb
  have HX := Lib.hid hx
  have HS := Lib.hid hs
  have HA := Lib.hid ((below_alloc w (.cells #[.int .u64 0, .int .i64 0, .int .i64 0, .int .u32 0, .bool false] 83)))
  have HC := Lib.hid (find_v g p x v s key _ hs (hb.below HA.out hb.lt) (hx.below HA.out (Nat.le_refl _)))
  obtain ⟨r, hr⟩ : ∃ r, fnd s.idx key = r := ⟨_, rfl⟩
  rw [hr] at HC hn ⊢
  clear hb hx hs hr
  go_enter Tryz.func42, Tryz.ntmps42
  go_wp2_with fail
  refine HC.out.mono ?_
  rintro e w1 ⟨rfl, hb1⟩
  have HZ := Lib.hid ((Blk.new w #[.int .u64 0, .int .i64 0, .int .i64 0, .int .u32 0, .bool false] 83).below hb1 (by simp))
  have HB1 := Lib.hid (HA.out.trans (hb1.mono HA.out.size))
  have hlt : w.heap.size < w1.heap.size := by have := hb1.size; simp at this; omega
  clear hb1 HC
  obtain ⟨z0, z1, z2, z3, z4, zf⟩ := Q.blk5_facts HZ.out
  cases r with
  | none =>
    rw [Option.getD_none, show ((hasN none : Nat) : Int) = 0 from rfl, show Q.pval pzero = .agg #[.int .u64 0, .int .i64 0, .int .i64 0, .int .u32 0, .bool false] from rfl]
    go_wp2
    have hF := set5_facts HZ.out HB1.out (.int .u64 0) (.int .i64 0) (.int .i64 0) (.int .u32 0) (.bool false) (.cells #[.int .u64 0, .int .i64 0, .int .i64 0, .int .u32 0, .bool false] 83)
    unfold Q.set5 at hF
    obtain ⟨y0, y1, y2, y3, y4, yb⟩ := hF
    exact bodyPost_ret (v := .tuple #[Q.pval pzero, ercode 6]) (by simp [results, Tryz.results42, go_sem, y0, y1, y2, y3, y4, pzero]) rfl ⟨rfl, yb⟩
  | some q =>
    obtain ⟨qk, qo, ql, qc, qg⟩ := q
    rw [Option.getD_some]
    cases qg with
    | true =>
      rw [show ((hasN (some (⟨qk, qo, ql, qc, true⟩ : Pos)) : Nat) : Int) = 1 from rfl]
      go_wp2
      have hF := set5_facts HZ.out HB1.out (.int .u64 0) (.int .i64 0) (.int .i64 0) (.int .u32 0) (.bool false) (.cells #[.int .u64 (qk : Int), .int .i64 qo, .int .i64 ql, .int .u32 (qc : Int), .bool true] 83)
      unfold Q.set5 at hF
      obtain ⟨y0, y1, y2, y3, y4, yb⟩ := hF
      exact bodyPost_ret (v := .tuple #[Q.pval pzero, ercode 7]) (by simp [results, Tryz.results42, go_sem, y0, y1, y2, y3, y4, pzero]) rfl ⟨rfl, yb⟩
    | false =>
      rw [show ((hasN (some (⟨qk, qo, ql, qc, false⟩ : Pos)) : Nat) : Int) = 2 from rfl]
      have hc : ¬ qc = c := fun e => hn (by simp [blobN, e])
      have hr9 : blobN (some (⟨qk, qo, ql, qc, false⟩ : Pos)) c = 9 := by simp [blobN, hc]
      go_wp2
      have hF := set5_facts HZ.out HB1.out (.int .u64 0) (.int .i64 0) (.int .i64 0) (.int .u32 0) (.bool false) (.cells #[.int .u64 (qk : Int), .int .i64 qo, .int .i64 ql, .int .u32 (qc : Int), .bool false] 83)
      unfold Q.set5 at hF
      obtain ⟨y0, y1, y2, y3, y4, yb⟩ := hF
      exact bodyPost_ret (v := .tuple #[Q.pval pzero, ercode 9]) (by simp [results, Tryz.results42, go_sem, y0, y1, y2, y3, y4, pzero]) rfl ⟨by rw [hr9], yb⟩
set_option maxRecDepth 100000 in
set_option maxHeartbeats 1000000 in
theorem blob_ok (g p x : Nat) (v : Value) (s : Vst) (key c : Nat) (q : Pos) (w : World) (hs : s.Ok) (hb : Blk w g (vcells p x s) 107) (hx : Q.At w x v s.idx) (hf : fnd s.idx key = some q) (hn : blobN (some q) c = 0) :
    Calls Tryz.prog 42 #[.pointer (some ⟨g, 0, none⟩), .int .u64 (key : Int), .int .u32 (c : Int)] w fun e w' =>
      e = .returned (.tuple #[Q.pval q, .nilIface]) ∧ Below w.heap.size w w' := by
  have HA := Lib.hid ((below_alloc w (.cells #[.int .u64 0, .int .i64 0, .int .i64 0, .int .u32 0, .bool false] 83)))
  have hcf := find_v g p x v s key _ hs (hb.below HA.out hb.lt) (hx.below HA.out (Nat.le_refl _))
  obtain ⟨qk, qo, ql, qc, qg⟩ := q
  have hg : qg = false := by
    cases qg with
    | true => simp [blobN] at hn
    | false => rfl
  subst hg
  have hc : qc = c := by
    simp only [blobN] at hn
    by_cases e : qc = c
    · exact e
    · simp [e] at hn
  subst hc
  rw [hf, Option.getD_some, show ((hasN (some (⟨qk, qo, ql, qc, false⟩ : Pos)) : Nat) : Int) = 2 from rfl] at hcf
  have HC := Lib.hid hcf
  clear hb hx hs hf hcf hn
  go_enter Tryz.func42, Tryz.ntmps42
  go_wp2_with fail
  refine HC.out.mono ?_
  rintro e w1 ⟨rfl, hb1⟩
  have HZ := Lib.hid ((Blk.new w #[.int .u64 0, .int .i64 0, .int .i64 0, .int .u32 0, .bool false] 83).below hb1 (by simp))
  have HB1 := Lib.hid (HA.out.trans (hb1.mono HA.out.size))
  have hlt : w.heap.size < w1.heap.size := by have := hb1.size; simp at this; omega
  clear hb1 HC
  obtain ⟨z0, z1, z2, z3, z4, zf⟩ := Q.blk5_facts HZ.out
  go_wp2
  have hF := set5_facts HZ.out HB1.out (.int .u64 (qk : Int)) (.int .i64 qo) (.int .i64 ql) (.int .u32 (qc : Int)) (.bool false) (.cells #[.int .u64 (qk : Int), .int .i64 qo, .int .i64 ql, .int .u32 (qc : Int), .bool false] 83)
  unfold Q.set5 at hF
  obtain ⟨y0, y1, y2, y3, y4, yb⟩ := hF
  exact bodyPost_ret (v := .tuple #[Q.pval ⟨qk, qo, ql, qc, false⟩, .nilIface]) (by simp [results, Tryz.results42, go_sem, y0, y1, y2, y3, y4, pzero]) rfl ⟨rfl, yb⟩

end Go.Proofs.YtoblbipkkdiddaaGreatDoor
end

section
namespace Go.Proofs.YtoblbipkkdiddaaGreatDoor
open Go.RowKit Go.Cor

theorem append_vl (w : World) (g p : Nat) (S : Nat → Prop) (d : Dsk) (k : Nat) (s : Vst) (n : ByteArray) (v : Value) (l : List UInt8) (h : Vl w g p S d k s) (hk : k + 2 ≤ 90000) (hv : IsB w v l) (hl : l.length ≤ 16777216) :
    Calls Tryz.prog 83 #[.pointer (some ⟨p, 0, none⟩), .string n, v] w fun e w' => e = .returned (cerr (d.append n l).2) ∧ Vt w w' g p S (d.append n l).1 (k + 2) s := by
  obtain ⟨Sd, h1, h2, h3⟩ := h.disk
  refine (append_u w p Sd d k n v l h1 hk hv hl).mono ?_
  rintro e w' ⟨rfl, ht⟩
  exact ⟨rfl, h3 _ _ _ ht⟩
theorem sync_vl (w : World) (g p : Nat) (S : Nat → Prop) (d : Dsk) (k : Nat) (s : Vst) (n : ByteArray) (h : Vl w g p S d k s) (hk : k + 2 ≤ 90000) :
    Calls Tryz.prog 85 #[.pointer (some ⟨p, 0, none⟩), .string n] w fun e w' => e = .returned (cerr (d.sync n).2) ∧ Vt w w' g p S (d.sync n).1 (k + 2) s := by
  obtain ⟨Sd, h1, h2, h3⟩ := h.disk
  refine (sync_u w p Sd d k n h1 hk).mono ?_
  rintro e w' ⟨rfl, ht⟩
  exact ⟨rfl, h3 _ _ _ ht⟩
set_option maxRecDepth 100000 in
set_option maxHeartbeats 1000000 in
theorem position_v (n : Ndl) (v : Value) (off : Nat) (w : World) (hv : IsB w v n.data) :
    Calls Tryz.prog 45 #[Nd.nval n v, .int .i64 (off : Int)] w fun e w' => e = .returned (Q.pval (posN n off)) ∧ Below w.heap.size w w' := by
  obtain ⟨N, hN⟩ : ∃ N, n.data.length = N := ⟨_, rfl⟩
  have hlen := fun W => Nd.len_B (P := Tryz.prog) hv hN 45 3 5 Tryz.underlying45 W
  obtain ⟨key, cookie, gone, data⟩ := n
  simp only [posN, hN]
  clear hv hN
  go_enter Tryz.func45, Tryz.ntmps45
  go_wp2
  exact bodyPost_ret (v := Q.pval ⟨key, (off : Int), (N : Int), cookie, gone⟩) (by simp [results, Tryz.results45, go_sem]) rfl ⟨rfl, ((Below.refl _ w).alloc (Nat.le_refl _) _).alloc (by simp) _⟩

end Go.Proofs.YtoblbipkkdiddaaGreatDoor
end
