/- The statements of layer 2 (sum): in one go and in two. -/
import Derived.Test.YtojflnlfhicpgaaLaw02c
import Derived.Deep.RegionHeld3
namespace Go.Proofs.Ytojflnlfhicpgaa
open Go.RowKit Go.Cor

theorem sumIs_long (v : Value) (l : List UInt8) (a : Nat) (w : World) (hv : IsB w v l) (h : 2000 < l.length) :
    Calls Try.prog 3 #[v, .int .u8 a] w fun e w' => e = .returned (.bool true) ∧ Below w.heap.size w w' := by
  obtain ⟨n, hn⟩ : ∃ n : Nat, l.length = n := ⟨_, rfl⟩
  obtain ⟨x, cap, rfl, hlc, hcm⟩ := hv.at_len hn
  unfold maxLen at hcm
  rw [hn] at h
  clear hv hn
  go_enter Try.func3, Try.ntmps3
  go_wp2_with (go_at_call 7; refine (alive2_any _).mono ?_; rintro e w1 ⟨rfl, hb1⟩)
  go_ret
  exact ⟨rfl, hb1⟩

/-- What Open tells. -/
def OpenRes (l : List UInt8) (v' er : Value) (w' : World) : Prop :=
  (l.length < 4 ∧ v' = .slice none 0 0 ∧ er = err 3) ∨ (4 ≤ l.length ∧ ¬ sumOk l ∧ v' = .slice none 0 0 ∧ er = err 5) ∨ (4 ≤ l.length ∧ sumOk l ∧ er = .nilIface ∧ IsB w' v' (l.take (l.length - 4)))
theorem OpenRes.mono {l : List UInt8} {v er : Value} {w w' : World} {B : Nat} (h : OpenRes l v er w) (hb : Below B w w') (hB : w.heap.size ≤ B) : OpenRes l v er w' := by
  rcases h with h | h | ⟨h1, h2, h3, h4⟩
  · exact .inl h
  · exact .inr (.inl h)
  · exact .inr (.inr ⟨h1, h2, h3, h4.mono hb hB⟩)
theorem open_any (v : Value) (l : List UInt8) (w : World) (hv : IsB w v l) (hl : l.length ≤ 1099511627776) :
    Calls Try.prog 10 #[v] w fun e w' => ∃ v' er, e = .returned (.tuple #[v', er]) ∧ OpenRes l v' er w' ∧ Below w.heap.size w w' := by
  by_cases h : l.length < 4
  · refine (open_short v l w hv h).mono ?_
    rintro e w' ⟨rfl, rfl⟩
    exact ⟨_, _, rfl, .inl ⟨h, rfl, rfl⟩, Below.refl _ _⟩
  by_cases hs : sumOk l
  · refine (open_ok v l w hv hl (by omega) hs).mono ?_
    rintro e w' ⟨v', rfl, hown, hb⟩
    exact ⟨_, _, rfl, .inr (.inr ⟨by omega, hs, rfl, IsB.own hown (by simp)⟩), hb⟩
  · refine (open_bad v l w hv hl (by omega) hs).mono ?_
    rintro e w' ⟨rfl, rfl⟩
    exact ⟨_, _, rfl, .inr (.inl ⟨by omega, hs, rfl, rfl⟩), Below.refl _ _⟩

theorem sealed_of {s : Nat} {l : List UInt8} {w : World} {v : Value} (h : s = crc l) (hv : IsB w v (l ++ le s 4)) : IsB w v (sealed l) := by
  subst h
  exact hv

set_option maxRecDepth 100000 in
set_option maxHeartbeats 1000000 in
theorem sumIs_any (v : Value) (l : List UInt8) (a : Nat) (w : World) (hv : IsB w v l) (ha : a < 256) (hl : l.length ≤ 2000) :
    Calls Try.prog 3 #[v, .int .u8 a] w fun e w' => e = .returned (.bool true) ∧ Below w.heap.size w w' := by
  obtain ⟨i0, hi, hz0, hz1, hz2⟩ := info_parts Try.infoU8
  have HV := Lib.hid hv
  obtain ⟨n, hn⟩ : ∃ n : Nat, l.length = n := ⟨_, rfl⟩
  obtain ⟨x, cap, rfl, hlc, hcm⟩ := hv.at_len hn
  have HN := Lib.hid hn
  rw [hn] at hl
  obtain ⟨k, hk⟩ : ∃ k : Nat, k = a % (n + 1) := ⟨_, rfl⟩
  have hkn : k ≤ n := by have := Nat.mod_lt a (show 0 < n + 1 by omega); omega
  have hkk : (a : Int) % ((n : Int) + 1) = (k : Int) := by rw [hk]; simp
  have hkc : k ≤ cap := by omega
  have hkc' : (k : Int) ≤ (cap : Int) := by omega
  have hkn' : (k : Int) ≤ (n : Int) := by omega
  clear hv hn hk
  go_enter Try.func3, Try.ntmps3
  go_wp2_with fail
  refine (alive2_any _).mono ?_
  rintro e w1 ⟨rfl, hb1⟩
  have HV1 := Lib.hid (HV.out.mono hb1 (Nat.le_refl _))
  go_wp2_with fail
  refine (refof_any _ l _ HV1.out (by rw [HN.out]; omega)).mono ?_
  rintro e w2 ⟨rfl, rfl⟩
  have hcl := crc_lt l
  obtain ⟨s, hs⟩ : ∃ s : Nat, s = crc l := ⟨_, rfl⟩
  rw [← hs] at hcl ⊢
  have HS := Lib.hid hs
  clear hs
  go_wp2_with fail
  refine (seal_any _ l _ HV1.out (by rw [HN.out]; omega)).mono ?_
  rintro e w2 ⟨g2, cap2, rfl, hown2, hg2, _, hb2⟩
  have HV2 := Lib.hid (HV1.out.mono hb2 (Nat.le_refl _))
  have HS2 := Lib.hid (IsB.own hown2 (length_sealed l).symm)
  rw [HN.out] at HS2 ⊢
  clear hown2
  go_wp2_with fail
  refine (open_any _ l _ HV2.out (by rw [HN.out]; omega)).mono ?_
  rintro e w3 ⟨v3, er3, rfl, hres, hb3⟩
  have HR3 := Lib.hid hres
  have HV3 := Lib.hid (HV2.out.mono hb3 (Nat.le_refl _))
  have HS3 := Lib.hid (HS2.out.mono hb3 (Nat.le_refl _))
  have hbe : Below w.heap.size w w3 := hb1.trans ((hb2.trans (hb3.mono hb2.size)).mono hb1.size)
  clear hres hb2 hb3 HS2 HV2 HV1
  have HVd := Lib.hid (show IsB w3.drew (.slice x n cap) l from HV3.out)
  have HTd := Lib.hid (show IsB w3.drew (.slice x k cap) (l.take k) from HVd.out.takeN HN.out hkn)
  have HSd := Lib.hid (show IsB w3.drew (.slice (some ⟨g2, 0, none⟩) (n + 4) cap2) (sealed l) from HS3.out)
  have HVl := Lib.hid (show IsB (w3.drew.alloc (.cells #[] 5)) (.slice x n cap) l from HVd.out.mono ((Below.refl _ _).alloc (Nat.le_refl _) _) (Nat.le_refl _))
  have hcp : ¬ (cap = k) ∨ cap = k := by omega
  have hmm : cmore (crc (l.take k)) (l.drop k) = s := by rw [← crc_append, List.take_append_drop, HS.out]
  have HMM := Lib.hid hmm
  clear hmm hkk hkc hkn'
  have hsl : (sealed l).length ≤ 1099511627776 := by rw [length_sealed, HN.out]; omega
  go_upto_region 9 with fail
  go_cut [57] from 31 to 57 (fun bb wx => bb = .bool false ∧ Below w3.heap.size w3 wx)
  case first =>
    rcases hcp with hcp | hcp
    · have HDd := Lib.hid (show IsB w3.drew (.slice (x.map fun a => a.add k) (n - k) (cap - k)) (l.drop k) from by have h := HVd.out; rw [← HN.out] at h ⊢; exact h.drop (by rw [HN.out]; exact hkn))
      · go_wp2_with fail
        go_region_held3 (fun _ => True) (trivial) (first
          | (go_at_call 11; with_reducible refine (of_any (.slice x n cap) l _ HVd.out (by rw [HN.out]; omega)).mono ?_; rintro e w' ⟨rfl, rfl⟩; rw [← HS.out])
          | (go_at_call 11; with_reducible refine (of_any (.slice x k cap) (l.take k) _ HTd.out (by simp; omega)).mono ?_; rintro e w' ⟨rfl, rfl⟩)
          | (go_at_call 12; with_reducible refine (more_any (crc (l.take k)) _ (l.drop k) _ (crc_lt _) HDd.out (by rw [List.length_drop, HN.out]; omega)).mono ?_; rintro e w' ⟨rfl, rfl⟩; rw [HMM.out])
          | (refine step_append_B (by rfl) (.tmp 49) (.tmp 50) 22 rfl w3.heap.size 5 i0 Try.underlying22 hi hz0 hz1 hz2 _ [] 0 rfl (World.ownsRow_lit _ #[] 0 (Nat.le_refl _) (Nat.zero_le _) rfl) rfl _ l rfl HVl.out (by rw [HN.out]; simp; omega) (by simp) ?_; intro v4 w4 hown4 hb4; have hs4 := hb4.size; simp at hs4)
          | (go_at_call 14; with_reducible refine (tail_any s _ hcl).mono ?_; rintro e w5 ⟨v5, rfl, hown5, hb5⟩; have hs5 := hb5.size)
          | (refine step_append_B (by rfl) (.tmp 51) (.tmp 53) 22 rfl w3.heap.size 5 i0 Try.underlying22 hi hz0 hz1 hz2 _ l l.length rfl (ownsRow_below hown4 hb5 (Nat.le_refl _)) rfl _ (le s 4) rfl (IsB.own hown5 (length_le _ _).symm) (by rw [HN.out, length_le]; omega) (by omega) ?_; intro v6 w6 hown6 hb6; have hs6 := hb6.size; have e1 := sealed_of HS.out (IsB.own (l := l ++ le s 4) hown6 (by simp)); have e3 := HSd.out.mono (((Below.refl w3.heap.size w3.drew).alloc (Nat.le_refl _) _).trans (hb4.trans ((hb5.mono (by omega)).trans hb6))) (Nat.le_refl w3.heap.size))
          | (go_at_call 13; with_reducible refine (same_yes _ _ (sealed l) _ e3 e1 hsl).mono ?_; rintro e w7 ⟨rfl, nd, rfl⟩))
        go_wp2_with fail
        go_meet
        exact ⟨rfl, below_drewN ((((Below.refl w3.heap.size w3).drew).trans (((Below.refl w3.heap.size w3.drew).alloc (Nat.le_refl _) _).trans hb4)).trans ((hb5.mono (by omega)).trans hb6)) nd⟩
    · subst hcp
      obtain rfl : n = cap := by omega
      have HDd := Lib.hid (show IsB w3.drew (.slice x 0 0) [] from ⟨x, 0, rfl, Nat.le_refl _, Nat.zero_le _, fun _ => rfl, .inl rfl⟩)
      · go_wp2_with fail
        go_region_held3 (fun _ => True) (trivial) (first
          | (go_at_call 11; with_reducible refine (of_any (.slice x n n) l _ HVd.out (by rw [HN.out]; omega)).mono ?_; rintro e w' ⟨rfl, rfl⟩; rw [← HS.out])
          | (go_at_call 12; with_reducible refine (more_any s _ [] _ hcl HDd.out (by simp)).mono ?_; rintro e w' ⟨rfl, rfl⟩; rw [cmore_nil s hcl])
          | (refine step_append_B (by rfl) (.tmp 49) (.tmp 50) 22 rfl w3.heap.size 5 i0 Try.underlying22 hi hz0 hz1 hz2 _ [] 0 rfl (World.ownsRow_lit _ #[] 0 (Nat.le_refl _) (Nat.zero_le _) rfl) rfl _ l rfl HVl.out (by rw [HN.out]; simp; omega) (by simp) ?_; intro v4 w4 hown4 hb4; have hs4 := hb4.size; simp at hs4)
          | (go_at_call 14; with_reducible refine (tail_any s _ hcl).mono ?_; rintro e w5 ⟨v5, rfl, hown5, hb5⟩; have hs5 := hb5.size)
          | (refine step_append_B (by rfl) (.tmp 51) (.tmp 53) 22 rfl w3.heap.size 5 i0 Try.underlying22 hi hz0 hz1 hz2 _ l l.length rfl (ownsRow_below hown4 hb5 (Nat.le_refl _)) rfl _ (le s 4) rfl (IsB.own hown5 (length_le _ _).symm) (by rw [HN.out, length_le]; omega) (by omega) ?_; intro v6 w6 hown6 hb6; have hs6 := hb6.size; have e1 := sealed_of HS.out (IsB.own (l := l ++ le s 4) hown6 (by simp)); have e3 := HSd.out.mono (((Below.refl w3.heap.size w3.drew).alloc (Nat.le_refl _) _).trans (hb4.trans ((hb5.mono (by omega)).trans hb6))) (Nat.le_refl w3.heap.size))
          | (go_at_call 13; with_reducible refine (same_yes _ _ (sealed l) _ e3 e1 hsl).mono ?_; rintro e w7 ⟨rfl, nd, rfl⟩))
        go_wp2_with fail
        go_meet
        exact ⟨rfl, below_drewN ((((Below.refl w3.heap.size w3).drew).trans (((Below.refl w3.heap.size w3.drew).alloc (Nat.le_refl _) _).trans hb4)).trans ((hb5.mono (by omega)).trans hb6)) nd⟩
  case rest =>
    obtain ⟨rfl, hbc⟩ := hcut
    have HR4 := Lib.hid (HR3.out.mono hbc (Nat.le_refl _))
    have HV4 := Lib.hid (HV3.out.mono hbc (Nat.le_refl _))
    have hbe4 : Below w.heap.size w wc := hbe.trans (hbc.mono hbe.size)
    clear HR3 HV3 HVd HTd HSd HVl HMM hbc HS3
    rcases HR4.out with ⟨h4, rfl, rfl⟩ | ⟨h4, hbad, rfl, rfl⟩ | ⟨h4, hgood, rfl, hx⟩
    · rw [HN.out] at h4
      go_wp2_with fail
      refine (code_code 3 _ (by decide) (by decide)).mono ?_
      rintro e w5 ⟨rfl, rfl⟩
      go_wp2
      go_ret
      exact ⟨rfl, hbe4⟩
    all_goals
      obtain ⟨m, rfl⟩ : ∃ m, n = m + 4 := ⟨n - 4, by rw [HN.out] at h4; omega⟩
      have hT := Lib.hid (HV4.out.takeN HN.out (by omega : m ≤ m + 4))
      have hD := Lib.hid (show IsB wc.drew (.slice (x.map fun a => a.add m) 4 (cap - m)) (l.drop m) from by
        have h := HV4.out
        rw [← HN.out] at h
        have h2 := h.drop (j := m) (by rw [HN.out]; omega)
        rw [HN.out, show m + 4 - m = 4 from by omega] at h2
        exact h2)
      have hmc : ¬ (cap = m) := by omega
      have hTd := Lib.hid (show IsB wc.drew (.slice x m cap) (l.take m) from hT.out)
      obtain ⟨c, hc⟩ : ∃ c : Nat, c = crc (l.take m) := ⟨_, rfl⟩
      have hcc : c < 4294967296 := by rw [hc]; exact crc_lt _
      have HCC := Lib.hid hc
      clear hc h4
    · have hne : le c 4 ≠ l.drop m := by
        intro h
        apply hbad
        unfold sumOk
        rw [HN.out, Nat.add_sub_cancel, ← HCC.out, ← h, num_le, Nat.mod_eq_of_lt (by omega)]
      have HNE := Lib.hid hne
      clear hne hbad
      have hl1 : (l.take m).length ≤ 1099511627776 := by rw [List.length_take, HN.out]; omega
      have hl2 : (l.drop m).length ≤ 1099511627776 := by rw [List.length_drop, HN.out]; omega
      have hl3 : (le c 4).length ≤ 1099511627776 := by rw [length_le]; omega
      have hl4 : (le c 4).length = (l.drop m).length := by rw [length_le, List.length_drop, HN.out]; omega
      have hl4 := Lib.hid hl4
      go_upto_region 14 with fail
      have hm0 : (0 : Int) ≤ (m : Int) := by omega
      have hm4 : (m : Int) ≤ (m : Int) + 4 := by omega
      have hwm : IntKind.i64.wrap (m : Int) = (m : Int) := IntWalk.i64_in _ (by omega)
      go_region_held3 (fun _ => True) (trivial) (first
        | (go_at_call 8; with_reducible refine (refof_any (.slice x m cap) (l.take m) _ hTd.out hl1).mono ?_; rintro e w' ⟨rfl, rfl⟩; rw [← HCC.out])
        | (go_at_call 14; with_reducible refine (tail_any c _ hcc).mono ?_; rintro e w5 ⟨v5, rfl, hown5, hb5⟩; have hs5 := hb5.size; have e1 := IsB.own hown5 (length_le _ _).symm; have e2 := hD.out.mono hb5 (Nat.le_refl _))
        | (go_at_call 13; with_reducible refine (same_no _ _ (le c 4) (l.drop m) _ e1 e2 hl3 hl4.out HNE.out).mono ?_; rintro e w7 ⟨rfl, nd, rfl⟩))
      clear hwm
      have hbe5 : Below w.heap.size w (w5.drewN nd) := below_drewN (hbe4.trans ((((Below.refl wc.heap.size wc).drew).trans hb5).mono hbe4.size)) nd
      go_wp2_with fail
      refine (code_code 5 _ (by decide) (by decide)).mono ?_
      rintro e w8 ⟨rfl, rfl⟩
      go_wp2
      go_ret
      exact ⟨rfl, hbe5⟩
    · have heq : le c 4 = l.drop m := by
        unfold sumOk at hgood
        rw [HN.out, Nat.add_sub_cancel, ← HCC.out] at hgood
        have h := le_num (l.drop m)
        rw [← hgood, show (l.drop m).length = 4 from by rw [List.length_drop, HN.out]; omega] at h
        exact h
      have HEQ := Lib.hid heq
      clear heq hgood
      rw [HN.out, Nat.add_sub_cancel] at hx
      have HX := Lib.hid hx
      clear hx
      have hl1 : (l.take m).length ≤ 1099511627776 := by rw [List.length_take, HN.out]; omega
      have hl2 : (l.drop m).length ≤ 1099511627776 := by rw [List.length_drop, HN.out]; omega
      have hl3 : (le c 4).length ≤ 1099511627776 := by rw [length_le]; omega
      have hl4 : (le c 4).length = (l.drop m).length := by rw [length_le, List.length_drop, HN.out]; omega
      have hl4 := Lib.hid hl4
      go_upto_region 14 with fail
      have hm0 : (0 : Int) ≤ (m : Int) := by omega
      have hm4 : (m : Int) ≤ (m : Int) + 4 := by omega
      have hwm : IntKind.i64.wrap (m : Int) = (m : Int) := IntWalk.i64_in _ (by omega)
      go_region_held3 (fun _ => True) (trivial) (first
        | (go_at_call 8; with_reducible refine (refof_any (.slice x m cap) (l.take m) _ hTd.out hl1).mono ?_; rintro e w' ⟨rfl, rfl⟩; rw [← HCC.out])
        | (go_at_call 14; with_reducible refine (tail_any c _ hcc).mono ?_; rintro e w5 ⟨v5, rfl, hown5, hb5⟩; have hs5 := hb5.size; have e1 := IsB.own hown5 (length_le _ _).symm; rw [HEQ.out] at e1; have e2 := hD.out.mono hb5 (Nat.le_refl _))
        | (go_at_call 13; with_reducible refine (same_yes _ _ (l.drop m) _ e1 e2 hl2).mono ?_; rintro e w7 ⟨rfl, nd, rfl⟩))
      clear hwm
      have hbe5 : Below w.heap.size w (w5.drewN nd) := below_drewN (hbe4.trans ((((Below.refl wc.heap.size wc).drew).trans hb5).mono hbe4.size)) nd
      go_wp2_with fail
      refine (code_nil _).mono ?_
      rintro e w8 ⟨rfl, rfl⟩
      have hb8 : Below wc.heap.size wc (w5.drewN nd) := below_drewN (((Below.refl wc.heap.size wc).drew).trans hb5) nd
      go_wp2_with fail
      refine (same_yes _ _ (l.take m) _ (HX.out.mono hb8 (Nat.le_refl _)) (hT.out.mono hb8 (Nat.le_refl _)) hl1).mono ?_
      rintro e w8 ⟨rfl, nd2, rfl⟩
      go_wp2
      go_ret
      exact ⟨rfl, by rw [← World.drewN_drewN]; exact below_drewN hbe5 nd2⟩

theorem sumIs_all (v : Value) (l : List UInt8) (a : Nat) (w : World) (hv : IsB w v l) (ha : a < 256) :
    Calls Try.prog 3 #[v, .int .u8 a] w fun e w' => e = .returned (.bool true) ∧ Below w.heap.size w w' := by
  by_cases h : 2000 < l.length
  · exact sumIs_long v l a w hv h
  · exact sumIs_any v l a w hv ha (by omega)

end Go.Proofs.Ytojflnlfhicpgaa
