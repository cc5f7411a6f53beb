/- The statements of layer 2 (sum): in parts. -/
import Derived.Test.YtojflnlfhicpgaaLaw02b
namespace Go.Proofs.Ytojflnlfhicpgaa
open Go.RowKit Go.Cor

set_option maxRecDepth 100000 in
set_option maxHeartbeats 1600000 in
theorem sumParts_any (va vb vc : Value) (a b c : List UInt8) (w : World) (ha : IsB w va a) (hb : IsB w vb b) (hc : IsB w vc c) (la : a.length ≤ 600) (lb : b.length ≤ 600) (lc : c.length ≤ 600) :
    Calls Try.prog 5 #[va, vb, vc] w fun e w' => e = .returned (.bool true) ∧ Below w.heap.size w w' := by
  obtain ⟨i0, hi, hz0, hz1, hz2⟩ := info_parts Try.infoU8
  have HA := Lib.hid ha
  have HB := Lib.hid hb
  have HC := Lib.hid hc
  obtain ⟨n, hn⟩ : ∃ n : Nat, a.length = n := ⟨_, rfl⟩
  obtain ⟨m, hm⟩ : ∃ m : Nat, b.length = m := ⟨_, rfl⟩
  obtain ⟨k, hk⟩ : ∃ k : Nat, c.length = k := ⟨_, rfl⟩
  obtain ⟨xa, capa, rfl, hlca, hcma⟩ := ha.at_len hn
  obtain ⟨xb, capb, rfl, hlcb, hcmb⟩ := hb.at_len hm
  obtain ⟨xc, capc, rfl, hlcc, hcmc⟩ := hc.at_len hk
  rw [hn] at la
  rw [hm] at lb
  rw [hk] at lc
  have HN := Lib.hid hn
  have HM := Lib.hid hm
  have HK := Lib.hid hk
  clear ha hb hc hn hm hk
  go_enter Try.func5, Try.ntmps5
  go_wp2_with fail
  refine (alive2_any _).mono ?_
  rintro e w1 ⟨rfl, hb1⟩
  have hbA : Below w.heap.size w (w1.alloc (.cells #[] 5)) := hb1.alloc hb1.size _
  have HA1 := Lib.hid (HA.out.mono hbA (Nat.le_refl _))
  go_wp2_with (at_builtin; refine wpList_append_B (by rfl) (.tmp 28) (.tmp 29) 22 rfl w1.heap.size 5 i0 Try.underlying22 hi hz0 hz1 hz2 _ [] 0 rfl (World.ownsRow_lit _ #[] 0 (Nat.le_refl _) (Nat.zero_le _) rfl) rfl _ a rfl HA1.out (by rw [HN.out]; simp; omega) (by simp) ?_)
  intro v2 w2 hown2 hb2
  have hbB : Below w.heap.size w w2 := hbA.trans (hb2.mono hb1.size)
  have hw2 : w1.heap.size ≤ w2.heap.size := by have := hb2.size; simp at this; omega
  have HB2 := Lib.hid (HB.out.mono hbB (Nat.le_refl _))
  have HO2 := Lib.hid hown2
  clear hown2 HA1
  go_wp2_with (at_builtin; refine wpList_append_B (by rfl) (.tmp 30) (.tmp 31) 22 rfl w1.heap.size 5 i0 Try.underlying22 hi hz0 hz1 hz2 _ a a.length rfl HO2.out rfl _ b rfl HB2.out (by rw [HN.out, HM.out]; omega) hw2 ?_)
  intro v3 w3 hown3 hb3
  have hbC : Below w.heap.size w w3 := hbB.trans (hb3.mono hb1.size)
  have hw3 : w1.heap.size ≤ w3.heap.size := by have := hb3.size; omega
  have HC3 := Lib.hid (HC.out.mono hbC (Nat.le_refl _))
  have HO3 := Lib.hid hown3
  clear hown3 HB2
  go_wp2_with (at_builtin; refine wpList_append_B (by rfl) (.tmp 32) (.tmp 33) 22 rfl w1.heap.size 5 i0 Try.underlying22 hi hz0 hz1 hz2 _ (a ++ b) (a.length + b.length) rfl HO3.out (by simp) _ c rfl HC3.out (by simp only [List.length_append]; rw [HN.out, HM.out, HK.out]; omega) hw3 ?_)
  intro v4 w4 hown4 hb4
  have hbD : Below w.heap.size w w4 := hbC.trans (hb4.mono hb1.size)
  have HL : Hid ((a ++ b ++ c).length = n + m + k) := by show _ = _; simp only [List.length_append]; rw [HN.out, HM.out, HK.out]
  obtain ⟨all, hall⟩ : ∃ all, all = a ++ b ++ c := ⟨_, rfl⟩
  have hown4 : w4.ownsRow w1.heap.size 5 1 v4 (a ++ b ++ c).length (bvs (a ++ b ++ c)) := by simpa using hown4
  rw [← hall] at hown4 HL
  have HAll := Lib.hid hall
  have HI4 := Lib.hid (IsB.own hown4 rfl)
  clear hown4 HC3 HO2 HO3 hall
  go_wp2_with fail
  refine (of_any _ all _ HI4.out (by rw [HL.out]; omega)).mono ?_
  rintro e w5 ⟨rfl, rfl⟩
  go_wp2_with fail
  refine (seal_any _ all _ HI4.out (by rw [HL.out]; omega)).mono ?_
  rintro e w5 ⟨g5, cap5, rfl, hown5, hg5, _, hb5⟩
  have HS5 := Lib.hid (IsB.own hown5 (length_sealed all).symm)
  clear hown5
  rw [HL.out] at HS5 ⊢
  go_wp2_with fail
  refine (seal_any _ (sealed all) _ HS5.out (by rw [length_sealed, HL.out]; omega)).mono ?_
  rintro e w6 ⟨g6, cap6, rfl, hown6, hg6, _, hb6⟩
  have HS6 := Lib.hid (IsB.own hown6 (length_sealed _).symm)
  clear hown6
  rw [length_sealed, HL.out] at HS6 ⊢
  go_wp2_with fail
  refine (open_ok _ (sealed (sealed all)) _ HS6.out (by rw [length_sealed, length_sealed, HL.out]; omega) (by rw [length_sealed]; omega) (sealed_ok _)).mono ?_
  rintro e w7 ⟨v7, rfl, hown7, hb7⟩
  rw [show (sealed (sealed all)).length - 4 = (sealed all).length from by rw [length_sealed (sealed all)]; omega, sealed_take] at hown7
  have HS7 := Lib.hid (IsB.own hown7 rfl)
  clear hown7
  go_wp2_with fail
  refine (open_ok _ (sealed all) _ HS7.out (by rw [length_sealed, HL.out]; omega) (by rw [length_sealed]; omega) (sealed_ok _)).mono ?_
  rintro e w8 ⟨v8, rfl, hown8, hb8⟩
  rw [show (sealed all).length - 4 = all.length from by rw [length_sealed]; omega, sealed_take] at hown8
  have HS8 := Lib.hid (IsB.own hown8 rfl)
  have hbE : Below w4.heap.size w4 w8 := hb5.trans ((hb6.trans ((hb7.trans (hb8.mono hb7.size)).mono hb6.size)).mono hb5.size)
  have hbF : Below w.heap.size w w8 := hbD.trans (hbE.mono hbD.size)
  have HI8 := Lib.hid (HI4.out.mono hbE (Nat.le_refl _))
  clear hown8 hb5 hb6 hb7 hb8 HS5 HS6 HS7
  go_wp2_with fail
  refine (of_any _ a _ (HA.out.mono hbF (Nat.le_refl _)) (by rw [HN.out]; omega)).mono ?_
  rintro e w9 ⟨rfl, rfl⟩
  go_wp2_with fail
  refine (more_any (crc a) _ b _ (crc_lt a) (HB.out.mono hbF (Nat.le_refl _)) (by rw [HM.out]; omega)).mono ?_
  rintro e w9 ⟨rfl, rfl⟩
  go_wp2_with fail
  refine (more_any (cmore (crc a) b) _ c _ (cmore_lt _ _) (HC.out.mono hbF (Nat.le_refl _)) (by rw [HK.out]; omega)).mono ?_
  rintro e w9 ⟨rfl, rfl⟩
  have hq : cmore (cmore (crc a) b) c = crc all := by rw [HAll.out, crc_append, crc_append]
  rw [hq]
  clear hq
  go_wp2_with fail
  refine (of_any _ a _ (HA.out.mono hbF (Nat.le_refl _)) (by rw [HN.out]; omega)).mono ?_
  rintro e w9 ⟨rfl, rfl⟩
  have hbG : Below w8.heap.size w8 (w8.alloc (.cells #[] 5)) := (Below.refl _ _).alloc (Nat.le_refl _) _
  have HB9 := Lib.hid ((HB.out.mono hbF (Nat.le_refl _)).mono hbG (Nat.le_refl _))
  go_wp2_with (at_builtin; refine wpList_append_B (by rfl) (.tmp 60) (.tmp 61) 22 rfl w8.heap.size 5 i0 Try.underlying22 hi hz0 hz1 hz2 _ [] 0 rfl (World.ownsRow_lit _ #[] 0 (Nat.le_refl _) (Nat.zero_le _) rfl) rfl _ b rfl HB9.out (by rw [HM.out]; simp; omega) (by simp) ?_)
  intro v10 w10 hown10 hb10
  have hbH : Below w8.heap.size w8 w10 := hbG.trans hb10
  have hbI : Below w.heap.size w w10 := hbF.trans (hbH.mono hbF.size)
  have HC10 := Lib.hid (HC.out.mono hbI (Nat.le_refl _))
  have HO10 := Lib.hid hown10
  have hw10 := hbH.size
  clear hown10 HB9 hb10
  go_wp2_with (at_builtin; refine wpList_append_B (by rfl) (.tmp 62) (.tmp 63) 22 rfl w8.heap.size 5 i0 Try.underlying22 hi hz0 hz1 hz2 _ b b.length rfl HO10.out rfl _ c rfl HC10.out (by rw [HM.out, HK.out]; omega) hw10 ?_)
  intro v11 w11 hown11 hb11
  have hbJ : Below w8.heap.size w8 w11 := hbH.trans hb11
  have hbK : Below w.heap.size w w11 := hbF.trans (hbJ.mono hbF.size)
  have HBC := Lib.hid (IsB.own (l := b ++ c) hown11 (by simp))
  have HI11 := Lib.hid (HI8.out.mono hbJ (Nat.le_refl _))
  have HS11 := Lib.hid (HS8.out.mono hbJ (Nat.le_refl _))
  have hnil := Lib.hid (IsB.nil w11)
  clear hown11 hb11 HC10 HO10
  go_wp2_with fail
  refine (more_any (crc a) _ (b ++ c) _ (crc_lt a) HBC.out (by simp only [List.length_append]; rw [HM.out, HK.out]; omega)).mono ?_
  rintro e w9 ⟨rfl, rfl⟩
  have hq : cmore (crc a) (b ++ c) = crc all := by rw [HAll.out, ← crc_append, List.append_assoc]
  rw [hq]
  clear hq
  go_wp2_with fail
  refine (more_any (crc all) _ [] _ (crc_lt _) hnil.out (by simp)).mono ?_
  rintro e w9 ⟨rfl, rfl⟩
  rw [cmore_nil _ (crc_lt _)]
  go_wp2_with fail
  refine (code_nil _).mono ?_
  rintro e w9 ⟨rfl, rfl⟩
  go_wp2_with fail
  refine (code_nil _).mono ?_
  rintro e w9 ⟨rfl, rfl⟩
  go_wp2_with fail
  refine (same_yes _ _ all _ HS11.out HI11.out (by rw [HL.out]; omega)).mono ?_
  rintro e w9 ⟨rfl, nd, rfl⟩
  go_wp2
  go_ret
  exact ⟨rfl, below_drewN hbK nd⟩

set_option maxHeartbeats 800000 in
theorem sumParts_all (va vb vc : Value) (a b c : List UInt8) (w : World) (ha : IsB w va a) (hb : IsB w vb b) (hc : IsB w vc c) :
    Calls Try.prog 5 #[va, vb, vc] w fun e w' => e = .returned (.bool true) ∧ Below w.heap.size w w' := by
  by_cases h : a.length ≤ 600 ∧ b.length ≤ 600 ∧ c.length ≤ 600
  · exact sumParts_any va vb vc a b c w ha hb hc h.1 h.2.1 h.2.2
  obtain ⟨n, hn⟩ : ∃ n : Nat, a.length = n := ⟨_, rfl⟩
  obtain ⟨m, hm⟩ : ∃ m : Nat, b.length = m := ⟨_, rfl⟩
  obtain ⟨k, hk⟩ : ∃ k : Nat, c.length = k := ⟨_, rfl⟩
  obtain ⟨xa, capa, rfl, hlca, hcma⟩ := ha.at_len hn
  obtain ⟨xb, capb, rfl, hlcb, hcmb⟩ := hb.at_len hm
  obtain ⟨xc, capc, rfl, hlcc, hcmc⟩ := hc.at_len hk
  unfold maxLen at hcma hcmb hcmc
  rw [hn, hm, hk] at h
  clear ha hb hc hn hm hk
  by_cases h1 : 600 < n
  · clear h
    go_enter Try.func5, Try.ntmps5
    go_wp2_with (go_at_call 7; refine (alive2_any _).mono ?_; rintro e w1 ⟨rfl, hb1⟩)
    go_ret
    exact ⟨rfl, hb1⟩
  by_cases h2 : 600 < m
  · clear h
    go_enter Try.func5, Try.ntmps5
    go_wp2_with (go_at_call 7; refine (alive2_any _).mono ?_; rintro e w1 ⟨rfl, hb1⟩)
    go_ret
    exact ⟨rfl, hb1⟩
  have h3 : 600 < k := by omega
  clear h
  go_enter Try.func5, Try.ntmps5
  go_wp2_with (go_at_call 7; refine (alive2_any _).mono ?_; rintro e w1 ⟨rfl, hb1⟩)
  go_ret
  exact ⟨rfl, hb1⟩

end Go.Proofs.Ytojflnlfhicpgaa
