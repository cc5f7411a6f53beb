/- The document's answers for layer 5, by contracts: the checkpoint of bytes. -/
import Derived.Test.YtengfglopagdmaaSame5
import Derived.Test.YtengfglopagdmaaRef05
import Derived.Test.YtengfglopagdmaaRef02
import Derived.Test.YtengfglopagdmaaLaid
namespace Go.Proofs.Ytengfglopagdmaa
open Go.RowKit Go.Cor

abbrev rworld5 (w : World) : World := w.alloc (.cells #[.int .i64 0, .int .i64 0, .int .i64 0, .slice none 0 0] 24)
theorem rworld5_below (w : World) : Below w.heap.size w (rworld5 w) := (Below.refl _ _).alloc (Nat.le_refl _) _
theorem isB_rw5 {w : World} {v : Value} {l : List UInt8} (h : IsB w v l) : IsB (rworld5 w) v l := h.mono (rworld5_below w) (Nat.le_refl _)
theorem numb_fld (v : Value) (l : List UInt8) (a k : Nat) (w : World) (hv : IsB w v ((l.drop a).take k)) (hk : k ≤ 8) :
    Calls Try.prog 29 #[v] w fun e w' => e = .returned (.int .u64 (fld l a k : Nat)) ∧ w = w' := number_any v _ w hv (by rw [List.length_take]; omega)

theorem Try.sizeChkR : (Try.prog.info? 24).map (·.size) = some 4 := by kernel_rfl
theorem boxC_put {w : World} {g : Nat} {a b d : Int} {v : Value} (h : BoxC w g a b d v) (a' b' d' : Int) (v' : Value) :
    BoxC ((((w.setCell ⟨g, 0, none⟩ (.int .i64 a')).setCell ⟨g, 1, none⟩ (.int .i64 b')).setCell ⟨g, 2, none⟩ (.int .i64 d')).setCell ⟨g, 3, none⟩ v') g a' b' d' v' := by
  obtain ⟨c0, c1, c2, c3⟩ := h
  refine ⟨?_, ?_, ?_, ?_⟩ <;> go_simp
theorem boxC_set3 {w : World} {g : Nat} {a b d : Int} {v : Value} (h : BoxC w g a b d v) (v' : Value) : BoxC (w.setCell ⟨g, 3, none⟩ v') g a b d v' := by
  obtain ⟨c0, c1, c2, c3⟩ := h
  refine ⟨?_, ?_, ?_, ?_⟩ <;> go_simp
theorem pbox_put {w : World} {g : Nat} {p0 : Pos} (h : PBox w g p0) (p : Pos) :
    PBox (((((w.setCell ⟨g, 0, none⟩ (.int .u64 (p.key : Int))).setCell ⟨g, 0 + 1, none⟩ (.int .i64 p.off)).setCell ⟨g, 0 + 2, none⟩ (.int .i64 p.len)).setCell ⟨g, 0 + 3, none⟩ (.int .u32 (p.cookie : Int))).setCell ⟨g, 0 + 4, none⟩ (.bool p.gone)) g p := by
  obtain ⟨c0, c1, c2, c3, c4⟩ := h
  refine ⟨?_, ?_, ?_, ?_, ?_⟩ <;> go_simp
theorem thaw_set {w : World} {g k : Nat} {u : Value} (h : ∀ o, w.frozen? ⟨g, o, none⟩ = false) : ∀ o, (w.setCell ⟨g, k, none⟩ u).frozen? ⟨g, o, none⟩ = false := fun o => by
  have := h o
  go_simp
theorem thaw_set4 {w : World} {g : Nat} {u0 u1 u2 u3 : Value} (h : ∀ o, w.frozen? ⟨g, o, none⟩ = false) : ∀ o, ((((w.setCell ⟨g, 0, none⟩ u0).setCell ⟨g, 1, none⟩ u1).setCell ⟨g, 2, none⟩ u2).setCell ⟨g, 3, none⟩ u3).frozen? ⟨g, o, none⟩ = false :=
  thaw_set (thaw_set (thaw_set (thaw_set h)))

theorem rget_short (v : Value) (l : List UInt8) (w : World) (hv : IsB w v l) (h : l.length < 24) :
    Calls Try.prog 14 #[v] w fun e w' => e = .returned (.tuple #[cval czero (.slice none 0 0), .int .i64 3]) ∧ Below w.heap.size w w' := by
  obtain ⟨x, cap, rfl, hlc, hcm⟩ := hv.at_len rfl
  clear hv
  go_enter Try.func14, Try.ntmps14
  go_wp2
  exact bodyPost_ret (v := .tuple #[cval czero (.slice none 0 0), .int .i64 3]) (by simp [results, Try.results14, go_sem, czero]) rfl ⟨rfl, rworld5_below w⟩

set_option maxHeartbeats 1000000 in
theorem rget_sized (v : Value) (l : List UInt8) (w : World) (hv : IsB w v l) (hl : l.length ≤ 1099511627776) (h : 24 ≤ l.length) (hz : sizedK l ≠ 0) :
    Calls Try.prog 14 #[v] w fun e w' => e = .returned (.tuple #[cval czero (.slice none 0 0), .int .i64 (sizedK l : Nat)]) ∧ Below w.heap.size w w' := by
  obtain ⟨L, hL⟩ : ∃ L, l.length = L := ⟨_, rfl⟩
  have hlen := fun W => len_B (P := Try.prog) hv hL 27 3 5 Try.underlying27 W
  rw [hL] at hl h
  obtain ⟨s0, r0, i0⟩ := slice_h_B (P := Try.prog) hv 27 5 Try.underlying27 Try.sizeU8 4 (by omega)
  have q0 : ∀ W, (Instr.slice 27 v none (some (.int .i64 4)) none).run Try.prog W = .ok s0 W := r0
  have I0 := Lib.hid (show IsB (rworld5 w) s0 ((l.drop 0).take 4) from isB_rw5 i0)
  obtain ⟨s16, r16, i16⟩ := slice_lh_B (P := Try.prog) hv 27 5 Try.underlying27 Try.sizeU8 16 20 (by decide) (by omega)
  have q16 : ∀ W, (Instr.slice 27 v (some (.int .i64 16)) (some (.int .i64 20)) none).run Try.prog W = .ok s16 W := r16
  have I16 := Lib.hid (show IsB (rworld5 w) s16 ((l.drop 16).take 4) from isB_rw5 i16)
  have HL := Lib.hid hL
  have HV := Lib.hid hv
  obtain ⟨m, hm⟩ : ∃ m : Nat, m = fld l 0 4 := ⟨_, rfl⟩
  obtain ⟨n, hn⟩ : ∃ n : Nat, n = fld l 16 4 := ⟨_, rfl⟩
  have hm4 : m < 4294967296 := by rw [hm]; exact fld4_lt l 0
  have hn4 : n < 4294967296 := by rw [hn]; exact fld4_lt l 16
  have HM := Lib.hid hm
  have HN := Lib.hid hn
  have hK : sizedK l = if m ≠ 1128811344 ∨ 4096 < n then 4 else if L < 24 + 24 * n then 3 else if 24 + 24 * n < L then 4 else 0 := by
    unfold sizedK cnt
    rw [if_neg (by omega), ← hm, ← hn, hL]
  obtain ⟨q, hq⟩ : ∃ q : Nat, sizedK l = q := ⟨_, rfl⟩
  rw [hq] at hK hz ⊢
  have h24 : decide ((L : Int) < 24) = false := decide_eq_false (by omega)
  clear hv hm hn hL hq i0 i16 r0 r16 HV
  by_cases m1 : m = 1128811344
  · have mb : ((m : Int) != 1128811344) = false := by rw [bne_eq_false_iff_eq]; omega
    by_cases n1 : 4096 < n
    · obtain rfl : q = 4 := by rw [hK, if_pos (.inr n1)]
      have nb : decide ((4096 : Int) < (n : Int)) = true := decide_eq_true (by omega)
      clear hK m1 n1 hz
      go_enter Try.func14, Try.ntmps14
      go_wp2_with fail
      refine (numb_fld s0 l 0 4 _ I0.out (by decide)).mono ?_
      rintro e w' ⟨rfl, rfl⟩
      rw [← HM.out]
      go_wp2_with fail
      refine (numb_fld s16 l 16 4 _ I16.out (by decide)).mono ?_
      rintro e w' ⟨rfl, rfl⟩
      rw [← HN.out]
      go_wp2
      exact bodyPost_ret (v := .tuple #[cval czero (.slice none 0 0), .int .i64 4]) (by simp [results, Try.results14, go_sem, czero]) rfl ⟨rfl, rworld5_below w⟩
      
    · have n2 : n ≤ 4096 := by omega
      have nb : decide ((4096 : Int) < (n : Int)) = false := decide_eq_false (by omega)
      by_cases l1 : L < 24 + 24 * n
      · obtain rfl : q = 3 := by rw [hK, if_neg (by omega), if_pos l1]
        have lb : decide ((L : Int) < 24 + 24 * (n : Int)) = true := decide_eq_true (by omega)
        clear hK m1 n1 l1 hz
        go_enter Try.func14, Try.ntmps14
        go_wp2_with fail
        refine (numb_fld s0 l 0 4 _ I0.out (by decide)).mono ?_
        rintro e w' ⟨rfl, rfl⟩
        rw [← HM.out]
        go_wp2_with fail
        refine (numb_fld s16 l 16 4 _ I16.out (by decide)).mono ?_
        rintro e w' ⟨rfl, rfl⟩
        rw [← HN.out]
        go_wp2_with fail
        refine (numb_fld s16 l 16 4 _ I16.out (by decide)).mono ?_
        rintro e w' ⟨rfl, rfl⟩
        rw [← HN.out]
        go_wp2
        exact bodyPost_ret (v := .tuple #[cval czero (.slice none 0 0), .int .i64 3]) (by simp [results, Try.results14, go_sem, czero]) rfl ⟨rfl, rworld5_below w⟩
        
      · have lb : decide ((L : Int) < 24 + 24 * (n : Int)) = false := decide_eq_false (by omega)
        by_cases l2 : 24 + 24 * n < L
        · obtain rfl : q = 4 := by rw [hK, if_neg (by omega), if_neg l1, if_pos l2]
          have lc : decide (24 + 24 * (n : Int) < (L : Int)) = true := decide_eq_true (by omega)
          clear hK m1 n1 l1 l2 hz
          go_enter Try.func14, Try.ntmps14
          go_wp2_with fail
          refine (numb_fld s0 l 0 4 _ I0.out (by decide)).mono ?_
          rintro e w' ⟨rfl, rfl⟩
          rw [← HM.out]
          go_wp2_with fail
          refine (numb_fld s16 l 16 4 _ I16.out (by decide)).mono ?_
          rintro e w' ⟨rfl, rfl⟩
          rw [← HN.out]
          go_wp2_with fail
          refine (numb_fld s16 l 16 4 _ I16.out (by decide)).mono ?_
          rintro e w' ⟨rfl, rfl⟩
          rw [← HN.out]
          go_wp2
          exact bodyPost_ret (v := .tuple #[cval czero (.slice none 0 0), .int .i64 4]) (by simp [results, Try.results14, go_sem, czero]) rfl ⟨rfl, rworld5_below w⟩
          
        · exact absurd (by rw [hK, if_neg (by omega), if_neg l1, if_neg l2]) hz
  · obtain rfl : q = 4 := by rw [hK, if_pos (.inl m1)]
    have mb : ((m : Int) != 1128811344) = true := by rw [bne_iff_ne]; omega
    clear hK m1 hz
    go_enter Try.func14, Try.ntmps14
    go_wp2_with fail
    refine (numb_fld s0 l 0 4 _ I0.out (by decide)).mono ?_
    rintro e w' ⟨rfl, rfl⟩
    rw [← HM.out]
    go_wp2
    exact bodyPost_ret (v := .tuple #[cval czero (.slice none 0 0), .int .i64 4]) (by simp [results, Try.results14, go_sem, czero]) rfl ⟨rfl, rworld5_below w⟩
    

set_option maxRecDepth 100000 in
set_option maxHeartbeats 1000000 in
theorem rget_sum (v : Value) (l : List UInt8) (w : World) (hv : IsB w v l) (hl : l.length ≤ 1099511627776) (hz : sizedK l = 0) (hs : ¬ sumOk l) :
    Calls Try.prog 14 #[v] w fun e w' => e = .returned (.tuple #[cval czero (.slice none 0 0), .int .i64 5]) ∧ Below w.heap.size w w' := by
  obtain ⟨h, hmg, hn96, hlen'⟩ := sizedK_ok hz
  obtain ⟨L, hL⟩ : ∃ L, l.length = L := ⟨_, rfl⟩
  have hlen := fun W => len_B (P := Try.prog) hv hL 27 3 5 Try.underlying27 W
  rw [hL] at hl h
  obtain ⟨s0, r0, i0⟩ := slice_h_B (P := Try.prog) hv 27 5 Try.underlying27 Try.sizeU8 4 (by omega)
  have q0 : ∀ W, (Instr.slice 27 v none (some (.int .i64 4)) none).run Try.prog W = .ok s0 W := r0
  have I0 := Lib.hid (show IsB (rworld5 w) s0 ((l.drop 0).take 4) from isB_rw5 i0)
  obtain ⟨s16, r16, i16⟩ := slice_lh_B (P := Try.prog) hv 27 5 Try.underlying27 Try.sizeU8 16 20 (by decide) (by omega)
  have q16 : ∀ W, (Instr.slice 27 v (some (.int .i64 16)) (some (.int .i64 20)) none).run Try.prog W = .ok s16 W := r16
  have I16 := Lib.hid (show IsB (rworld5 w) s16 ((l.drop 16).take 4) from isB_rw5 i16)
  have HL := Lib.hid hL
  have HV := Lib.hid hv
  obtain ⟨m, hm⟩ : ∃ m : Nat, m = fld l 0 4 := ⟨_, rfl⟩
  obtain ⟨n, hn⟩ : ∃ n : Nat, n = fld l 16 4 := ⟨_, rfl⟩
  have hm4 : m < 4294967296 := by rw [hm]; exact fld4_lt l 0
  have hn4 : n < 4294967296 := by rw [hn]; exact fld4_lt l 16
  have HM := Lib.hid hm
  have HN := Lib.hid hn
  rw [show cnt l = n from hn.symm] at hn96 hlen'
  rw [hL] at hlen'
  have mb : ((m : Int) != 1128811344) = false := by rw [bne_eq_false_iff_eq, hm]; omega
  have h24 : decide ((L : Int) < 24) = false := decide_eq_false (by omega)
  have nb : decide ((4096 : Int) < (n : Int)) = false := decide_eq_false (by omega)
  have lb : decide ((L : Int) < 24 + 24 * (n : Int)) = false := decide_eq_false (by omega)
  have lc : decide (24 + 24 * (n : Int) < (L : Int)) = false := decide_eq_false (by omega)
  obtain ⟨K, hK⟩ : ∃ K : Nat, L = K + 4 := ⟨L - 4, by omega⟩
  have hKi : (L : Int) - 4 = (K : Int) := by omega
  have hwK : IntKind.i64.wrap (K : Int) = (K : Int) := by rw [IntKind.wrap_i64]; omega
  obtain ⟨sD, rD, iD⟩ := slice_l_B (P := Try.prog) hv 27 5 Try.underlying27 Try.sizeU8 K (by omega)
  obtain ⟨sT, rT, iT⟩ := slice_h_B (P := Try.prog) hv 27 5 Try.underlying27 Try.sizeU8 K (by omega)
  have GD := Lib.hid (show IsB (rworld5 w).drew sD (l.drop K) from isB_rw5 iD)
  have GT := Lib.hid (show IsB (rworld5 w).drew sT (l.take K) from isB_rw5 iT)
  have hl8 := Lib.hid (show (l.drop K).length ≤ 8 from by rw [List.length_drop]; omega)
  have hlT := Lib.hid (show (l.take K).length ≤ 1099511627776 from by rw [List.length_take]; omega)
  obtain ⟨s1, hs1⟩ : ∃ s : Nat, s = crc (l.take K) := ⟨_, rfl⟩
  obtain ⟨s2, hs2⟩ : ∃ s : Nat, s = num (l.drop K) := ⟨_, rfl⟩
  have hs14 : s1 < 4294967296 := by rw [hs1]; exact crc_lt _
  have hw1 : IntKind.u64.wrap (s1 : Int) = (s1 : Int) := by rw [IntKind.wrap_u64]; omega
  have hKK : l.length - 4 = K := by omega
  unfold sumOk at hs
  rw [hKK, ← hs1, ← hs2] at hs
  have S1 := Lib.hid hs1
  have S2 := Lib.hid hs2
  have hsb : ((s2 : Int) != (s1 : Int)) = true := by rw [bne_iff_ne]; omega
  clear hv hm hn hL i0 i16 r0 r16 HV hs hs1 hs2 hKK hK iD iT hlen' hmg hz
  go_enter Try.func14, Try.ntmps14
  go_wp2_with fail
  refine (numb_fld s0 l 0 4 _ I0.out (by decide)).mono ?_
  rintro e w' ⟨rfl, rfl⟩
  rw [← HM.out]
  go_wp2_with fail
  refine (numb_fld s16 l 16 4 _ I16.out (by decide)).mono ?_
  rintro e w' ⟨rfl, rfl⟩
  rw [← HN.out]
  go_wp2_with fail
  refine (numb_fld s16 l 16 4 _ I16.out (by decide)).mono ?_
  rintro e w' ⟨rfl, rfl⟩
  rw [← HN.out]
  go_wp2_with fail
  go_region_held3 (fun _ => True) (trivial) (first
    | (go_at_call 29; with_reducible refine (number_any sD _ _ GD.out hl8.out).mono ?_; rintro e w' ⟨rfl, rfl⟩; rw [← S2.out])
    | (go_at_call 25; with_reducible refine (refof_any sT _ _ GT.out hlT.out).mono ?_; rintro e w' ⟨rfl, rfl⟩; rw [← S1.out]))
  go_wp2
  exact bodyPost_ret (v := .tuple #[cval czero (.slice none 0 0), .int .i64 5]) (by simp [results, Try.results14, go_sem, czero]) rfl ⟨rfl, (rworld5_below w).drew⟩

set_option maxRecDepth 100000 in
set_option maxHeartbeats 4000000 in
theorem rget_rest (v : Value) (l : List UInt8) (w : World) (hv : IsB w v l) (hl : l.length ≤ 1099511627776) (hz : sizedK l = 0) (hs : sumOk l) :
    Calls Try.prog 14 #[v] w fun e w' =>
      ∃ x cap, e = .returned (.tuple #[cval (resC l) (.slice x (resC l).l.length cap), .int .i64 (getK l : Nat)]) ∧ IsP w' (.slice x (resC l).l.length cap) (resC l).l ∧ Below w.heap.size w w' := by
  have HQ := Lib.hid hz
  have HS := Lib.hid hs
  obtain ⟨h, hmg, hn96, hlen'⟩ := sizedK_ok hz
  obtain ⟨L, hL⟩ : ∃ L, l.length = L := ⟨_, rfl⟩
  have hlen := fun W => len_B (P := Try.prog) hv hL 27 3 5 Try.underlying27 W
  rw [hL] at hl h
  obtain ⟨s0, r0, i0⟩ := slice_h_B (P := Try.prog) hv 27 5 Try.underlying27 Try.sizeU8 4 (by omega)
  have q0 : ∀ W, (Instr.slice 27 v none (some (.int .i64 4)) none).run Try.prog W = .ok s0 W := r0
  have I0 := Lib.hid (show IsB (rworld5 w) s0 ((l.drop 0).take 4) from isB_rw5 i0)
  obtain ⟨s16, r16, i16⟩ := slice_lh_B (P := Try.prog) hv 27 5 Try.underlying27 Try.sizeU8 16 20 (by decide) (by omega)
  have q16 : ∀ W, (Instr.slice 27 v (some (.int .i64 16)) (some (.int .i64 20)) none).run Try.prog W = .ok s16 W := r16
  have I16 := Lib.hid (show IsB (rworld5 w) s16 ((l.drop 16).take 4) from isB_rw5 i16)
  have HL := Lib.hid hL
  have HV := Lib.hid hv
  obtain ⟨m, hm⟩ : ∃ m : Nat, m = fld l 0 4 := ⟨_, rfl⟩
  obtain ⟨n, hn⟩ : ∃ n : Nat, n = fld l 16 4 := ⟨_, rfl⟩
  have hm4 : m < 4294967296 := by rw [hm]; exact fld4_lt l 0
  have hn4 : n < 4294967296 := by rw [hn]; exact fld4_lt l 16
  have HM := Lib.hid hm
  have HN := Lib.hid hn
  rw [show cnt l = n from hn.symm] at hn96 hlen'
  rw [hL] at hlen'
  have mb : ((m : Int) != 1128811344) = false := by rw [bne_eq_false_iff_eq, hm]; omega
  have h24 : decide ((L : Int) < 24) = false := decide_eq_false (by omega)
  have nb : decide ((4096 : Int) < (n : Int)) = false := decide_eq_false (by omega)
  have lb : decide ((L : Int) < 24 + 24 * (n : Int)) = false := decide_eq_false (by omega)
  have lc : decide (24 + 24 * (n : Int) < (L : Int)) = false := decide_eq_false (by omega)
  obtain ⟨K, hK⟩ : ∃ K : Nat, L = K + 4 := ⟨L - 4, by omega⟩
  have hKi : (L : Int) - 4 = (K : Int) := by omega
  have hwK : IntKind.i64.wrap (K : Int) = (K : Int) := by rw [IntKind.wrap_i64]; omega
  obtain ⟨sD, rD, iD⟩ := slice_l_B (P := Try.prog) hv 27 5 Try.underlying27 Try.sizeU8 K (by omega)
  obtain ⟨sT, rT, iT⟩ := slice_h_B (P := Try.prog) hv 27 5 Try.underlying27 Try.sizeU8 K (by omega)
  have GD := Lib.hid (show IsB (rworld5 w).drew sD (l.drop K) from isB_rw5 iD)
  have GT := Lib.hid (show IsB (rworld5 w).drew sT (l.take K) from isB_rw5 iT)
  have hl8 := Lib.hid (show (l.drop K).length ≤ 8 from by rw [List.length_drop]; omega)
  have hlT := Lib.hid (show (l.take K).length ≤ 1099511627776 from by rw [List.length_take]; omega)
  obtain ⟨s1, hs1⟩ : ∃ s : Nat, s = crc (l.take K) := ⟨_, rfl⟩
  obtain ⟨s2, hs2⟩ : ∃ s : Nat, s = num (l.drop K) := ⟨_, rfl⟩
  have hs14 : s1 < 4294967296 := by rw [hs1]; exact crc_lt _
  have hw1 : IntKind.u64.wrap (s1 : Int) = (s1 : Int) := by rw [IntKind.wrap_u64]; omega
  have hKK : l.length - 4 = K := by omega
  unfold sumOk at hs
  rw [hKK, ← hs1, ← hs2] at hs
  have S1 := Lib.hid hs1
  have S2 := Lib.hid hs2
  have hsb : ((s2 : Int) != (s1 : Int)) = false := by rw [bne_eq_false_iff_eq]; omega
  obtain ⟨a, ha⟩ : ∃ a : Nat, a = fld l 4 4 := ⟨_, rfl⟩
  obtain ⟨b, hb⟩ : ∃ b : Nat, b = fld l 8 4 := ⟨_, rfl⟩
  obtain ⟨d, hd⟩ : ∃ d : Nat, d = fld l 12 4 := ⟨_, rfl⟩
  have ha4 : a < 4294967296 := by rw [ha]; exact fld4_lt l 4
  have hb4 : b < 4294967296 := by rw [hb]; exact fld4_lt l 8
  have hd4 : d < 4294967296 := by rw [hd]; exact fld4_lt l 12
  obtain ⟨s4, r4, i4⟩ := slice_lh_B (P := Try.prog) hv 27 5 Try.underlying27 Try.sizeU8 4 8 (by decide) (by omega)
  have q4 : ∀ W, (Instr.slice 27 v (some (.int .i64 4)) (some (.int .i64 8)) none).run Try.prog W = .ok s4 W := r4
  obtain ⟨s8, r8, i8⟩ := slice_lh_B (P := Try.prog) hv 27 5 Try.underlying27 Try.sizeU8 8 12 (by decide) (by omega)
  have q8 : ∀ W, (Instr.slice 27 v (some (.int .i64 8)) (some (.int .i64 12)) none).run Try.prog W = .ok s8 W := r8
  obtain ⟨s12, r12, i12⟩ := slice_lh_B (P := Try.prog) hv 27 5 Try.underlying27 Try.sizeU8 12 16 (by decide) (by omega)
  have q12 : ∀ W, (Instr.slice 27 v (some (.int .i64 12)) (some (.int .i64 16)) none).run Try.prog W = .ok s12 W := r12
  have G4 := Lib.hid (show IsB (rworld5 w).drew.drew s4 ((l.drop 4).take 4) from isB_rw5 i4)
  have G8 := Lib.hid (show IsB (rworld5 w).drew.drew s8 ((l.drop 8).take 4) from isB_rw5 i8)
  have G12 := Lib.hid (show IsB (rworld5 w).drew.drew s12 ((l.drop 12).take 4) from isB_rw5 i12)
  have HA := Lib.hid ha
  have HB := Lib.hid hb
  have HD := Lib.hid hd
  have HCN := Lib.hid (show cnt l = n from hn.symm)
  have HLN := Lib.hid hlen'
  have HGC := Lib.hid (show getC l = ⟨(a : Int), (b : Int), (d : Int), rowsP l n⟩ from by rw [ha, hb, hd, hn]; rfl)
  have hwa : IntKind.i64.wrap (a : Int) = (a : Int) := by rw [IntKind.wrap_i64]; omega
  have hwb : IntKind.i64.wrap (b : Int) = (b : Int) := by rw [IntKind.wrap_i64]; omega
  have hwd : IntKind.i64.wrap (d : Int) = (d : Int) := by rw [IntKind.wrap_i64]; omega
  clear hv hm hn hL i0 i16 r0 r16 hs hs1 hs2 hKK hK iD iT hmg hz ha hb hd r4 r8 r12 i4 i8 i12 hlen'
  go_enter Try.func14, Try.ntmps14
  go_wp2_with fail
  refine (numb_fld s0 l 0 4 _ I0.out (by decide)).mono ?_
  rintro e w' ⟨rfl, rfl⟩
  rw [← HM.out]
  go_wp2_with fail
  refine (numb_fld s16 l 16 4 _ I16.out (by decide)).mono ?_
  rintro e w' ⟨rfl, rfl⟩
  rw [← HN.out]
  go_wp2_with fail
  refine (numb_fld s16 l 16 4 _ I16.out (by decide)).mono ?_
  rintro e w' ⟨rfl, rfl⟩
  rw [← HN.out]
  go_wp2_with fail
  go_region_held3 (fun _ => True) (trivial) (first
    | (go_at_call 29; with_reducible refine (number_any sD _ _ GD.out hl8.out).mono ?_; rintro e w' ⟨rfl, rfl⟩; rw [← S2.out])
    | (go_at_call 25; with_reducible refine (refof_any sT _ _ GT.out hlT.out).mono ?_; rintro e w' ⟨rfl, rfl⟩; rw [← S1.out]))
  clear rD rT GD GT hl8 hlT S1 S2 hw1 hsb mb h24 nb lb lc q0 q16 I0 I16
  have hA := rworld5_below w
  have HX0 := Lib.hid (BoxC.new w 0 0 0 (.slice none 0 0) 24)
  have HZ0 := Lib.hid (show ∀ o, (rworld5 w).frozen? ⟨w.heap.size, o, none⟩ = false from fun o => by go_simp)
  obtain ⟨wD, hwD⟩ : ∃ wD, wD = (rworld5 w).drew := ⟨_, rfl⟩
  have hzD : wD.heap.size = w.heap.size + 1 := by rw [hwD]; show (w.alloc _).heap.size = _; simp
  have HX := Lib.hid (show BoxC wD w.heap.size 0 0 0 (.slice none 0 0) from by rw [hwD]; exact HX0.out)
  have HZ := Lib.hid (show ∀ o, wD.frozen? ⟨w.heap.size, o, none⟩ = false from by rw [hwD]; exact HZ0.out)
  have HBD := Lib.hid (show Below w.heap.size w wD from by rw [hwD]; exact hA.drew)
  have HVD := Lib.hid (HV.out.mono HBD.out (Nat.le_refl _))
  rw [← hwD] at G4 G8 G12
  clear hA HX0 HZ0
  go_upto_region 12 with fail
  rw [← hwD]
  clear hwD
  have HZD := Lib.hid hzD
  clear hzD
  go_cut [5] from 58 to 70 (fun p wx => p = .pointer (some ⟨wD.heap.size, 0, none⟩) ∧ BoxC wx wD.heap.size (a : Int) (b : Int) (d : Int) (.slice none 0 0) ∧ (∀ o, wx.frozen? ⟨wD.heap.size, o, none⟩ = false) ∧ Below wD.heap.size wD wx ∧ wD.heap.size < wx.heap.size)
  case first =>
    have HNz := BoxC.new wD.drew 0 0 0 (.slice none 0 0) 24
    have HNz' : BoxC (wD.drew.alloc (.cells #[.int .i64 0, .int .i64 0, .int .i64 0, .slice none 0 0] 24)) wD.heap.size 0 0 0 (.slice none 0 0) := HNz
    have fz : ∀ o, (wD.drew.alloc (.cells #[.int .i64 0, .int .i64 0, .int .i64 0, .slice none 0 0] 24)).frozen? ⟨wD.heap.size, o, none⟩ = false := fun o => by
      show (wD.drew.alloc _).frozen? ⟨wD.drew.heap.size, o, none⟩ = false
      go_simp
    have HCb := Lib.hid (boxC_put HNz' (a : Int) (b : Int) (d : Int) (.slice none 0 0))
    have HFb := Lib.hid (thaw_set4 fz (u0 := .int .i64 (a : Int)) (u1 := .int .i64 (b : Int)) (u2 := .int .i64 (d : Int)) (u3 := .slice none 0 0))
    have HLb := Lib.hid (((((((Below.refl wD.heap.size wD).drew).alloc (Nat.le_refl _) (.cells #[.int .i64 0, .int .i64 0, .int .i64 0, .slice none 0 0] 24)).setCell (p := ⟨wD.heap.size, 0, none⟩) (Nat.le_refl _) (.int .i64 (a : Int))).setCell (p := ⟨wD.heap.size, 1, none⟩) (Nat.le_refl _) (.int .i64 (b : Int))).setCell (p := ⟨wD.heap.size, 2, none⟩) (Nat.le_refl _) (.int .i64 (d : Int))).setCell (p := ⟨wD.heap.size, 3, none⟩) (Nat.le_refl _) (.slice none 0 0))
    have hbz : Below wD.heap.size wD (wD.drew.alloc (.cells #[.int .i64 0, .int .i64 0, .int .i64 0, .slice none 0 0] 24)) := ((Below.refl wD.heap.size wD).drew).alloc (Nat.le_refl _) _
    have G4a := Lib.hid (show IsB (wD.drew.alloc (.cells #[.int .i64 0, .int .i64 0, .int .i64 0, .slice none 0 0] 24)) s4 ((l.drop 4).take 4) from (show IsB wD.drew s4 ((l.drop 4).take 4) from G4.out).mono (((Below.refl wD.drew.heap.size wD.drew)).alloc (Nat.le_refl _) _) (Nat.le_refl _))
    have G8a := Lib.hid (show IsB (wD.drew.alloc (.cells #[.int .i64 0, .int .i64 0, .int .i64 0, .slice none 0 0] 24)) s8 ((l.drop 8).take 4) from (show IsB wD.drew s8 ((l.drop 8).take 4) from G8.out).mono (((Below.refl wD.drew.heap.size wD.drew)).alloc (Nat.le_refl _) _) (Nat.le_refl _))
    have G12a := Lib.hid (show IsB (wD.drew.alloc (.cells #[.int .i64 0, .int .i64 0, .int .i64 0, .slice none 0 0] 24)) s12 ((l.drop 12).take 4) from (show IsB wD.drew s12 ((l.drop 12).take 4) from G12.out).mono (((Below.refl wD.drew.heap.size wD.drew)).alloc (Nat.le_refl _) _) (Nat.le_refl _))
    clear hbz
    obtain ⟨c0, c1, c2, c3⟩ := HNz'
    clear HNz
    go_wp2_with fail
    refine wp_region_noPanic ?_
    refine wp_region_held_drew (S := (fun _ => True)) (by kernel_rfl) (trivial) (fun hHeld => ?_)
    refine wpAnyH_take (i := 0) (v := ?_) rfl (by kernel_rfl) (by kernel_rfl) (by kernel_rfl) (fun _ _ _ h => h) (Or.inl ⟨by rfl, ?_⟩) (by assumption) ?_
    rotate_left 1
    · intro w hSw
      (try dsimp only at hSw)
      go_simp
      all_goals (with_reducible rfl)
    try simp only [Act.put, List.getElem_toArray, List.getElem_cons_zero, List.getElem_cons_succ, List.setIfInBounds_toArray, List.set_cons_zero, List.set_cons_succ]
    refine wpAnyH_take (i := 1) (v := ?_) rfl (by kernel_rfl) (by kernel_rfl) (by kernel_rfl) (fun _ _ _ h => h) (Or.inl ⟨by rfl, ?_⟩) (by assumption) ?_
    rotate_left 1
    · intro w hSw
      (try dsimp only at hSw)
      go_simp
      all_goals (with_reducible rfl)
    try simp only [Act.put, List.getElem_toArray, List.getElem_cons_zero, List.getElem_cons_succ, List.setIfInBounds_toArray, List.set_cons_zero, List.set_cons_succ]
    refine wpAnyH_take (i := 4) (v := ?_) rfl (by kernel_rfl) (by kernel_rfl) (by kernel_rfl) (fun _ _ _ h => h) (Or.inl ⟨by rfl, ?_⟩) (by assumption) ?_
    rotate_left 1
    · intro w hSw
      (try dsimp only at hSw)
      go_simp
      all_goals (with_reducible rfl)
    try simp only [Act.put, List.getElem_toArray, List.getElem_cons_zero, List.getElem_cons_succ, List.setIfInBounds_toArray, List.set_cons_zero, List.set_cons_succ]
    refine wpAnyH_take (i := 5) (v := ?_) rfl (by kernel_rfl) (by kernel_rfl) (by kernel_rfl) (fun _ _ _ h => h) (Or.inl ⟨by rfl, ?_⟩) (by assumption) ?_
    rotate_left 1
    · intro w hSw
      (try dsimp only at hSw)
      go_simp
      all_goals (with_reducible rfl)
    try simp only [Act.put, List.getElem_toArray, List.getElem_cons_zero, List.getElem_cons_succ, List.setIfInBounds_toArray, List.set_cons_zero, List.set_cons_succ]
    refine wpAnyH_take (i := 8) (v := ?_) rfl (by kernel_rfl) (by kernel_rfl) (by kernel_rfl) (fun _ _ _ h => h) (Or.inl ⟨by rfl, ?_⟩) (by assumption) ?_
    rotate_left 1
    · intro w hSw
      (try dsimp only at hSw)
      go_simp
      all_goals (with_reducible rfl)
    try simp only [Act.put, List.getElem_toArray, List.getElem_cons_zero, List.getElem_cons_succ, List.setIfInBounds_toArray, List.set_cons_zero, List.set_cons_succ]
    refine wpAnyH_take (i := 9) (v := ?_) rfl (by kernel_rfl) (by kernel_rfl) (by kernel_rfl) (fun _ _ _ h => h) (Or.inl ⟨by rfl, ?_⟩) (by assumption) ?_
    rotate_left 1
    · intro w hSw
      (try dsimp only at hSw)
      go_simp
      all_goals (with_reducible rfl)
    try simp only [Act.put, List.getElem_toArray, List.getElem_cons_zero, List.getElem_cons_succ, List.setIfInBounds_toArray, List.set_cons_zero, List.set_cons_succ]
    refine wpAnyH_ready (rs := [2, 13]) (by kernel_rfl) (by simp) ?_
    refine AllReadyH.cons rfl (fun K hK => ?_) ?_
    · go_simp
      go_at_call 29
      refine (numb_fld s4 l 4 4 _ G4.out (by decide)).mono ?_
      rintro e w' ⟨rfl, rfl⟩
      rw [← HA.out]
      go_wp2_with fail
      refine hK.out _ _ trivial (fun hHeld => ?_)
      clear hK K
      try simp only [Act.put, List.getElem_toArray, List.getElem_cons_zero, List.getElem_cons_succ, List.setIfInBounds_toArray, List.set_cons_zero, List.set_cons_succ]
      refine wpAnyH_take (i := 3) (v := ?_) rfl (by kernel_rfl) (by kernel_rfl) (by kernel_rfl) (fun _ _ _ h => h) (Or.inl ⟨by rfl, ?_⟩) (by assumption) ?_
      rotate_left 1
      · intro w hSw
        (try dsimp only at hSw)
        go_simp
        all_goals (with_reducible rfl)
      try simp only [Act.put, List.getElem_toArray, List.getElem_cons_zero, List.getElem_cons_succ, List.setIfInBounds_toArray, List.set_cons_zero, List.set_cons_succ]
      refine wpAnyH_ready (rs := [6, 13]) (by kernel_rfl) (by simp) ?_
      refine AllReadyH.cons rfl (fun K hK => ?_) ?_
      · go_simp
        go_at_call 29
        refine (numb_fld s8 l 8 4 _ G8.out (by decide)).mono ?_
        rintro e w' ⟨rfl, rfl⟩
        rw [← HB.out]
        go_wp2_with fail
        refine hK.out _ _ trivial (fun hHeld => ?_)
        clear hK K
        try simp only [Act.put, List.getElem_toArray, List.getElem_cons_zero, List.getElem_cons_succ, List.setIfInBounds_toArray, List.set_cons_zero, List.set_cons_succ]
        refine wpAnyH_take (i := 7) (v := ?_) rfl (by kernel_rfl) (by kernel_rfl) (by kernel_rfl) (fun _ _ _ h => h) (Or.inl ⟨by rfl, ?_⟩) (by assumption) ?_
        rotate_left 1
        · intro w hSw
          (try dsimp only at hSw)
          go_simp
          all_goals (with_reducible rfl)
        try simp only [Act.put, List.getElem_toArray, List.getElem_cons_zero, List.getElem_cons_succ, List.setIfInBounds_toArray, List.set_cons_zero, List.set_cons_succ]
        refine wpAnyH_ready (rs := [10, 13]) (by kernel_rfl) (by simp) ?_
        refine AllReadyH.cons rfl (fun K hK => ?_) ?_
        · go_simp
          go_at_call 29
          refine (numb_fld s12 l 12 4 _ G12.out (by decide)).mono ?_
          rintro e w' ⟨rfl, rfl⟩
          rw [← HD.out]
          go_wp2_with fail
          refine hK.out _ _ trivial (fun hHeld => ?_)
          clear hK K
          try simp only [Act.put, List.getElem_toArray, List.getElem_cons_zero, List.getElem_cons_succ, List.setIfInBounds_toArray, List.set_cons_zero, List.set_cons_succ]
          refine wpAnyH_take (i := 11) (v := ?_) rfl (by kernel_rfl) (by kernel_rfl) (by kernel_rfl) (fun _ _ _ h => h) (Or.inl ⟨by rfl, ?_⟩) (by assumption) ?_
          rotate_left 1
          · intro w hSw
            (try dsimp only at hSw)
            go_simp
            all_goals (with_reducible rfl)
          try simp only [Act.put, List.getElem_toArray, List.getElem_cons_zero, List.getElem_cons_succ, List.setIfInBounds_toArray, List.set_cons_zero, List.set_cons_succ]
          refine wpAnyH_take (i := 12) (v := ?_) rfl (by kernel_rfl) (by kernel_rfl) (by kernel_rfl) (fun _ _ _ h => h) (Or.inl ⟨by rfl, ?_⟩) (by assumption) ?_
          rotate_left 1
          · intro w hSw
            (try dsimp only at hSw)
            go_simp
            all_goals (with_reducible rfl)
          try simp only [Act.put, List.getElem_toArray, List.getElem_cons_zero, List.getElem_cons_succ, List.setIfInBounds_toArray, List.set_cons_zero, List.set_cons_succ]
          refine wpAnyH_ready (rs := [13]) (by kernel_rfl) (by simp) ?_
          refine AllReadyH.cons rfl (fun K hK => ?_) AllReadyH.nil
          go_simp
          refine hK.out _ _ (trivial) (fun hHeld => ?_)
          clear hK K
          try simp only [Act.put, List.getElem_toArray, List.getElem_cons_zero, List.getElem_cons_succ, List.setIfInBounds_toArray, List.set_cons_zero, List.set_cons_succ]
          refine wpAnyH_ready (rs := [14]) (by kernel_rfl) (by simp) ?_
          refine AllReadyH.cons rfl (fun K hK => ?_) AllReadyH.nil
          rw [if_pos (by rfl)]
          refine wp_store4 24 Try.sizeChkR (.tmp 5) (.tmp 70) rfl wD.heap.size _ _ _ _ (a : Int) (b : Int) (d : Int) none 0 0 rfl rfl c0 c1 c2 c3 fz ?_
          refine hK.out _ _ (trivial) (fun hHeld => ?_)
          clear hK K
          try simp only [Act.put, List.getElem_toArray, List.getElem_cons_zero, List.getElem_cons_succ, List.setIfInBounds_toArray, List.set_cons_zero, List.set_cons_succ]
          refine wpAnyH_done (by kernel_rfl) (NoPanic.normal ?_) _
          go_wp2_with fail
          go_meet
          exact ⟨rfl, HCb.out, HFb.out, HLb.out, by simp⟩
        refine AllReadyH.cons rfl (fun K hK => ?_) AllReadyH.nil
        go_simp
        refine hK.out _ _ trivial (fun hHeld => ?_)
        clear hK K
        try simp only [Act.put, List.getElem_toArray, List.getElem_cons_zero, List.getElem_cons_succ, List.setIfInBounds_toArray, List.set_cons_zero, List.set_cons_succ]
        refine wpAnyH_ready (rs := [10]) (by kernel_rfl) (by simp) ?_
        refine AllReadyH.cons rfl (fun K hK => ?_) AllReadyH.nil
        go_simp
        go_at_call 29
        refine (numb_fld s12 l 12 4 _ G12a.out (by decide)).mono ?_
        rintro e w' ⟨rfl, rfl⟩
        rw [← HD.out]
        go_wp2_with fail
        refine hK.out _ _ (trivial) (fun hHeld => ?_)
        clear hK K
        try simp only [Act.put, List.getElem_toArray, List.getElem_cons_zero, List.getElem_cons_succ, List.setIfInBounds_toArray, List.set_cons_zero, List.set_cons_succ]
        refine wpAnyH_take (i := 11) (v := ?_) rfl (by kernel_rfl) (by kernel_rfl) (by kernel_rfl) (fun _ _ _ h => h) (Or.inl ⟨by rfl, ?_⟩) (by assumption) ?_
        rotate_left 1
        · intro w hSw
          (try dsimp only at hSw)
          go_simp
          all_goals (with_reducible rfl)
        try simp only [Act.put, List.getElem_toArray, List.getElem_cons_zero, List.getElem_cons_succ, List.setIfInBounds_toArray, List.set_cons_zero, List.set_cons_succ]
        refine wpAnyH_take (i := 12) (v := ?_) rfl (by kernel_rfl) (by kernel_rfl) (by kernel_rfl) (fun _ _ _ h => h) (Or.inl ⟨by rfl, ?_⟩) (by assumption) ?_
        rotate_left 1
        · intro w hSw
          (try dsimp only at hSw)
          go_simp
          all_goals (with_reducible rfl)
        try simp only [Act.put, List.getElem_toArray, List.getElem_cons_zero, List.getElem_cons_succ, List.setIfInBounds_toArray, List.set_cons_zero, List.set_cons_succ]
        refine wpAnyH_ready (rs := [14]) (by kernel_rfl) (by simp) ?_
        refine AllReadyH.cons rfl (fun K hK => ?_) AllReadyH.nil
        rw [if_pos (by rfl)]
        refine wp_store4 24 Try.sizeChkR (.tmp 5) (.tmp 70) rfl wD.heap.size _ _ _ _ (a : Int) (b : Int) (d : Int) none 0 0 rfl rfl c0 c1 c2 c3 fz ?_
        refine hK.out _ _ (trivial) (fun hHeld => ?_)
        clear hK K
        try simp only [Act.put, List.getElem_toArray, List.getElem_cons_zero, List.getElem_cons_succ, List.setIfInBounds_toArray, List.set_cons_zero, List.set_cons_succ]
        refine wpAnyH_done (by kernel_rfl) (NoPanic.normal ?_) _
        go_wp2_with fail
        go_meet
        exact ⟨rfl, HCb.out, HFb.out, HLb.out, by simp⟩
      refine AllReadyH.cons rfl (fun K hK => ?_) AllReadyH.nil
      go_simp
      refine hK.out _ _ trivial (fun hHeld => ?_)
      clear hK K
      try simp only [Act.put, List.getElem_toArray, List.getElem_cons_zero, List.getElem_cons_succ, List.setIfInBounds_toArray, List.set_cons_zero, List.set_cons_succ]
      refine wpAnyH_ready (rs := [6]) (by kernel_rfl) (by simp) ?_
      refine AllReadyH.cons rfl (fun K hK => ?_) AllReadyH.nil
      go_simp
      go_at_call 29
      refine (numb_fld s8 l 8 4 _ G8a.out (by decide)).mono ?_
      rintro e w' ⟨rfl, rfl⟩
      rw [← HB.out]
      go_wp2_with fail
      refine hK.out _ _ (trivial) (fun hHeld => ?_)
      clear hK K
      try simp only [Act.put, List.getElem_toArray, List.getElem_cons_zero, List.getElem_cons_succ, List.setIfInBounds_toArray, List.set_cons_zero, List.set_cons_succ]
      refine wpAnyH_take (i := 7) (v := ?_) rfl (by kernel_rfl) (by kernel_rfl) (by kernel_rfl) (fun _ _ _ h => h) (Or.inl ⟨by rfl, ?_⟩) (by assumption) ?_
      rotate_left 1
      · intro w hSw
        (try dsimp only at hSw)
        go_simp
        all_goals (with_reducible rfl)
      try simp only [Act.put, List.getElem_toArray, List.getElem_cons_zero, List.getElem_cons_succ, List.setIfInBounds_toArray, List.set_cons_zero, List.set_cons_succ]
      refine wpAnyH_ready (rs := [10]) (by kernel_rfl) (by simp) ?_
      refine AllReadyH.cons rfl (fun K hK => ?_) AllReadyH.nil
      go_simp
      go_at_call 29
      refine (numb_fld s12 l 12 4 _ G12a.out (by decide)).mono ?_
      rintro e w' ⟨rfl, rfl⟩
      rw [← HD.out]
      go_wp2_with fail
      refine hK.out _ _ (trivial) (fun hHeld => ?_)
      clear hK K
      try simp only [Act.put, List.getElem_toArray, List.getElem_cons_zero, List.getElem_cons_succ, List.setIfInBounds_toArray, List.set_cons_zero, List.set_cons_succ]
      refine wpAnyH_take (i := 11) (v := ?_) rfl (by kernel_rfl) (by kernel_rfl) (by kernel_rfl) (fun _ _ _ h => h) (Or.inl ⟨by rfl, ?_⟩) (by assumption) ?_
      rotate_left 1
      · intro w hSw
        (try dsimp only at hSw)
        go_simp
        all_goals (with_reducible rfl)
      try simp only [Act.put, List.getElem_toArray, List.getElem_cons_zero, List.getElem_cons_succ, List.setIfInBounds_toArray, List.set_cons_zero, List.set_cons_succ]
      refine wpAnyH_take (i := 12) (v := ?_) rfl (by kernel_rfl) (by kernel_rfl) (by kernel_rfl) (fun _ _ _ h => h) (Or.inl ⟨by rfl, ?_⟩) (by assumption) ?_
      rotate_left 1
      · intro w hSw
        (try dsimp only at hSw)
        go_simp
        all_goals (with_reducible rfl)
      try simp only [Act.put, List.getElem_toArray, List.getElem_cons_zero, List.getElem_cons_succ, List.setIfInBounds_toArray, List.set_cons_zero, List.set_cons_succ]
      refine wpAnyH_ready (rs := [14]) (by kernel_rfl) (by simp) ?_
      refine AllReadyH.cons rfl (fun K hK => ?_) AllReadyH.nil
      rw [if_pos (by rfl)]
      refine wp_store4 24 Try.sizeChkR (.tmp 5) (.tmp 70) rfl wD.heap.size _ _ _ _ (a : Int) (b : Int) (d : Int) none 0 0 rfl rfl c0 c1 c2 c3 fz ?_
      refine hK.out _ _ (trivial) (fun hHeld => ?_)
      clear hK K
      try simp only [Act.put, List.getElem_toArray, List.getElem_cons_zero, List.getElem_cons_succ, List.setIfInBounds_toArray, List.set_cons_zero, List.set_cons_succ]
      refine wpAnyH_done (by kernel_rfl) (NoPanic.normal ?_) _
      go_wp2_with fail
      go_meet
      exact ⟨rfl, HCb.out, HFb.out, HLb.out, by simp⟩
    refine AllReadyH.cons rfl (fun K hK => ?_) AllReadyH.nil
    go_simp
    refine hK.out _ _ trivial (fun hHeld => ?_)
    clear hK K
    try simp only [Act.put, List.getElem_toArray, List.getElem_cons_zero, List.getElem_cons_succ, List.setIfInBounds_toArray, List.set_cons_zero, List.set_cons_succ]
    refine wpAnyH_ready (rs := [2]) (by kernel_rfl) (by simp) ?_
    refine AllReadyH.cons rfl (fun K hK => ?_) AllReadyH.nil
    go_simp
    go_at_call 29
    refine (numb_fld s4 l 4 4 _ G4a.out (by decide)).mono ?_
    rintro e w' ⟨rfl, rfl⟩
    rw [← HA.out]
    go_wp2_with fail
    refine hK.out _ _ (trivial) (fun hHeld => ?_)
    clear hK K
    try simp only [Act.put, List.getElem_toArray, List.getElem_cons_zero, List.getElem_cons_succ, List.setIfInBounds_toArray, List.set_cons_zero, List.set_cons_succ]
    refine wpAnyH_take (i := 3) (v := ?_) rfl (by kernel_rfl) (by kernel_rfl) (by kernel_rfl) (fun _ _ _ h => h) (Or.inl ⟨by rfl, ?_⟩) (by assumption) ?_
    rotate_left 1
    · intro w hSw
      (try dsimp only at hSw)
      go_simp
      all_goals (with_reducible rfl)
    try simp only [Act.put, List.getElem_toArray, List.getElem_cons_zero, List.getElem_cons_succ, List.setIfInBounds_toArray, List.set_cons_zero, List.set_cons_succ]
    refine wpAnyH_ready (rs := [6]) (by kernel_rfl) (by simp) ?_
    refine AllReadyH.cons rfl (fun K hK => ?_) AllReadyH.nil
    go_simp
    go_at_call 29
    refine (numb_fld s8 l 8 4 _ G8a.out (by decide)).mono ?_
    rintro e w' ⟨rfl, rfl⟩
    rw [← HB.out]
    go_wp2_with fail
    refine hK.out _ _ (trivial) (fun hHeld => ?_)
    clear hK K
    try simp only [Act.put, List.getElem_toArray, List.getElem_cons_zero, List.getElem_cons_succ, List.setIfInBounds_toArray, List.set_cons_zero, List.set_cons_succ]
    refine wpAnyH_take (i := 7) (v := ?_) rfl (by kernel_rfl) (by kernel_rfl) (by kernel_rfl) (fun _ _ _ h => h) (Or.inl ⟨by rfl, ?_⟩) (by assumption) ?_
    rotate_left 1
    · intro w hSw
      (try dsimp only at hSw)
      go_simp
      all_goals (with_reducible rfl)
    try simp only [Act.put, List.getElem_toArray, List.getElem_cons_zero, List.getElem_cons_succ, List.setIfInBounds_toArray, List.set_cons_zero, List.set_cons_succ]
    refine wpAnyH_ready (rs := [10]) (by kernel_rfl) (by simp) ?_
    refine AllReadyH.cons rfl (fun K hK => ?_) AllReadyH.nil
    go_simp
    go_at_call 29
    refine (numb_fld s12 l 12 4 _ G12a.out (by decide)).mono ?_
    rintro e w' ⟨rfl, rfl⟩
    rw [← HD.out]
    go_wp2_with fail
    refine hK.out _ _ (trivial) (fun hHeld => ?_)
    clear hK K
    try simp only [Act.put, List.getElem_toArray, List.getElem_cons_zero, List.getElem_cons_succ, List.setIfInBounds_toArray, List.set_cons_zero, List.set_cons_succ]
    refine wpAnyH_take (i := 11) (v := ?_) rfl (by kernel_rfl) (by kernel_rfl) (by kernel_rfl) (fun _ _ _ h => h) (Or.inl ⟨by rfl, ?_⟩) (by assumption) ?_
    rotate_left 1
    · intro w hSw
      (try dsimp only at hSw)
      go_simp
      all_goals (with_reducible rfl)
    try simp only [Act.put, List.getElem_toArray, List.getElem_cons_zero, List.getElem_cons_succ, List.setIfInBounds_toArray, List.set_cons_zero, List.set_cons_succ]
    refine wpAnyH_take (i := 12) (v := ?_) rfl (by kernel_rfl) (by kernel_rfl) (by kernel_rfl) (fun _ _ _ h => h) (Or.inl ⟨by rfl, ?_⟩) (by assumption) ?_
    rotate_left 1
    · intro w hSw
      (try dsimp only at hSw)
      go_simp
      all_goals (with_reducible rfl)
    try simp only [Act.put, List.getElem_toArray, List.getElem_cons_zero, List.getElem_cons_succ, List.setIfInBounds_toArray, List.set_cons_zero, List.set_cons_succ]
    refine wpAnyH_ready (rs := [14]) (by kernel_rfl) (by simp) ?_
    refine AllReadyH.cons rfl (fun K hK => ?_) AllReadyH.nil
    rw [if_pos (by rfl)]
    refine wp_store4 24 Try.sizeChkR (.tmp 5) (.tmp 70) rfl wD.heap.size _ _ _ _ (a : Int) (b : Int) (d : Int) none 0 0 rfl rfl c0 c1 c2 c3 fz ?_
    refine hK.out _ _ (trivial) (fun hHeld => ?_)
    clear hK K
    try simp only [Act.put, List.getElem_toArray, List.getElem_cons_zero, List.getElem_cons_succ, List.setIfInBounds_toArray, List.set_cons_zero, List.set_cons_succ]
    refine wpAnyH_done (by kernel_rfl) (NoPanic.normal ?_) _
    go_wp2_with fail
    go_meet
    exact ⟨rfl, HCb.out, HFb.out, HLb.out, by simp⟩
  case rest =>
  obtain ⟨rfl, hC, hFz, hBl, hgz⟩ := hcut
  obtain ⟨w1, hw1⟩ : ∃ w1, w1 = wc := ⟨_, rfl⟩
  subst hw1
  obtain ⟨g, hg⟩ : ∃ g, g = wD.heap.size := ⟨_, rfl⟩
  rw [← hg] at hC hFz hBl hgz ⊢
  have hgw : w.heap.size < g := by have := HZD.out; omega
  have HX1 := Lib.hid (HX.out.mono hBl hgw)
  have HZ1 := Lib.hid (thaw_below HZ.out hBl hgw)
  have HB1 := Lib.hid (HBD.out.trans (hBl.mono (Nat.le_of_lt hgw)))
  have HV1 := Lib.hid (HVD.out.mono hBl (by rw [hg]; exact Nat.le_refl _))
  have HC1 := Lib.hid hC
  have HF1 := Lib.hid hFz
  obtain ⟨ip, hip, hp0, hp1, hp2⟩ := info_parts Try.infoPosR
  clear hC hFz hBl hg HZD HX HZ HBD HVD G4 G8 G12 q4 q8 q12 hwa hwb hwd
  have hg1 : g ≤ w1.heap.size := Nat.le_of_lt hgz
  go_wp2_with fail
  go_loopw [6] (fun k wr => ∃ i : Nat, i ≤ n ∧ k = .int .i64 i ∧ ∃ x c, Hid (BoxC wr g (a : Int) (b : Int) (d : Int) (.slice x i c)) ∧ Hid (wr.ownsRow (g + 1) 50 5 (.slice x i c) i (pcs (rowsP l i))) ∧ Hid (∀ o, wr.frozen? ⟨g, o, none⟩ = false) ∧ Hid (Below g w1 wr) ∧ Hid (IsB wr v l) ∧ g < wr.heap.size ∧ Hid (∀ j, j < i → rowG l j ≤ 1)) (fun k _ => n - (intOf k).toNat)
  case atStart => exact ⟨0, by omega, rfl, none, 0, HC1, Lib.hid (World.ownsRow_nil _ _ _ _), HF1, Lib.hid (Below.refl _ _), HV1, hgz, Lib.hid (fun j hj => by omega)⟩
  case round =>
    clear HC1 HF1 HV1 hgz
    obtain ⟨i, hin, rfl, x, c, HC4, HO4, HF4, HB4, HV4, hgz, HR4⟩ := hrel
    have HBW := Lib.hid (HB1.out.trans (HB4.out.mono (Nat.le_of_lt hgw)))
    have HX4 := Lib.hid (HX1.out.mono HB4.out hgw)
    have HZ4 := Lib.hid (thaw_below HZ1.out HB4.out hgw)
    by_cases hlt : i < n
    · have hLn : 44 + 24 * i ≤ l.length := by rw [HL.out, HLN.out]; omega
      obtain ⟨sx, rx, ix⟩ := slice_lh_B (P := Try.prog) HV4.out 27 5 Try.underlying27 Try.sizeU8 (20 + 24 * i) (44 + 24 * i) (by omega) hLn
      have qx : ∀ W, (Instr.slice 27 v (some (.int .i64 (20 + 24 * (i : Int)))) (some (.int .i64 (44 + 24 * (i : Int)))) none).run Try.prog W = .ok sx W := fun W => by
        have := rx W
        rwa [show (((20 + 24 * i : Nat) : Nat) : Int) = 20 + 24 * (i : Int) from by omega, show (((44 + 24 * i : Nat) : Nat) : Int) = 44 + 24 * (i : Int) from by omega] at this
      rw [show 44 + 24 * i - (20 + 24 * i) = 24 from by omega] at ix
      have HF := Lib.hid (show ∀ k m, k + m ≤ 24 → fld ((l.drop (20 + 24 * i)).take 24) k m = fld l (20 + 24 * i + k) m from fun k m hk => by rw [fld_take _ hk, fld_drop])
      have HSL := Lib.hid (show ((l.drop (20 + 24 * i)).take 24).length = 24 from by rw [List.length_take, List.length_drop]; omega)
      obtain ⟨y, hy⟩ : ∃ y, y = (l.drop (20 + 24 * i)).take 24 := ⟨_, rfl⟩
      rw [← hy] at ix HF HSL
      clear hy rx hLn
      obtain ⟨z20, r20, i20⟩ := slice_lh_B (P := Try.prog) ix 27 5 Try.underlying27 Try.sizeU8 20 24 (by decide) (by rw [HSL.out]; omega)
      have k20 : ∀ W, (Instr.slice 27 sx (some (.int .i64 20)) (some (.int .i64 24)) none).run Try.prog W = .ok z20 W := r20
      obtain ⟨z0, r0, i0'⟩ := slice_h_B (P := Try.prog) ix 27 5 Try.underlying27 Try.sizeU8 8 (by rw [HSL.out]; omega)
      have k0 : ∀ W, (Instr.slice 27 sx none (some (.int .i64 8)) none).run Try.prog W = .ok z0 W := r0
      obtain ⟨z8, r8, i8⟩ := slice_lh_B (P := Try.prog) ix 27 5 Try.underlying27 Try.sizeU8 8 12 (by decide) (by rw [HSL.out]; omega)
      have k8 : ∀ W, (Instr.slice 27 sx (some (.int .i64 8)) (some (.int .i64 12)) none).run Try.prog W = .ok z8 W := r8
      obtain ⟨z12, r12, i12⟩ := slice_lh_B (P := Try.prog) ix 27 5 Try.underlying27 Try.sizeU8 12 16 (by decide) (by rw [HSL.out]; omega)
      have k12 : ∀ W, (Instr.slice 27 sx (some (.int .i64 12)) (some (.int .i64 16)) none).run Try.prog W = .ok z12 W := r12
      obtain ⟨z16, r16, i16⟩ := slice_lh_B (P := Try.prog) ix 27 5 Try.underlying27 Try.sizeU8 16 20 (by decide) (by rw [HSL.out]; omega)
      have k16 : ∀ W, (Instr.slice 27 sx (some (.int .i64 16)) (some (.int .i64 20)) none).run Try.prog W = .ok z16 W := r16
      have J20 := Lib.hid (show IsB wr z20 ((y.drop 20).take 4) from i20)
      have J0 := Lib.hid (show IsB wr.drew z0 ((y.drop 0).take 8) from i0'.mono ((Below.refl wr.heap.size wr).drew) (Nat.le_refl _))
      have J8 := Lib.hid (show IsB wr.drew z8 ((y.drop 8).take 4) from i8.mono ((Below.refl wr.heap.size wr).drew) (Nat.le_refl _))
      have J12 := Lib.hid (show IsB wr.drew z12 ((y.drop 12).take 4) from i12.mono ((Below.refl wr.heap.size wr).drew) (Nat.le_refl _))
      have J16 := Lib.hid (show IsB wr.drew z16 ((y.drop 16).take 4) from i16.mono ((Below.refl wr.heap.size wr).drew) (Nat.le_refl _))
      clear r20 r0 r8 r12 r16 i20 i0' i8 i12 i16 ix
      obtain ⟨gn, hgn⟩ : ∃ gn : Nat, gn = rowG l i := ⟨_, rfl⟩
      obtain ⟨kk, hkk⟩ : ∃ kk : Nat, kk = fld l (20 + 24 * i) 8 := ⟨_, rfl⟩
      obtain ⟨oo, hoo⟩ : ∃ oo : Nat, oo = fld l (28 + 24 * i) 4 := ⟨_, rfl⟩
      obtain ⟨ll, hll⟩ : ∃ ll : Nat, ll = fld l (32 + 24 * i) 4 := ⟨_, rfl⟩
      obtain ⟨cc, hcc⟩ : ∃ cc : Nat, cc = fld l (36 + 24 * i) 4 := ⟨_, rfl⟩
      have hgn4 : gn < 4294967296 := by rw [hgn]; exact fld4_lt l _
      have hoo4 : oo < 4294967296 := by rw [hoo]; exact fld4_lt l _
      have hll4 : ll < 4294967296 := by rw [hll]; exact fld4_lt l _
      have hcc4 : cc < 4294967296 := by rw [hcc]; exact fld4_lt l _
      have hwc : IntKind.u32.wrap (cc : Int) = (cc : Int) := IntWalk.u32_in _ (by omega)
      have hwo : IntKind.i64.wrap (oo : Int) = (oo : Int) := by rw [IntKind.wrap_i64]; omega
      have hwl : IntKind.i64.wrap (ll : Int) = (ll : Int) := by rw [IntKind.wrap_i64]; omega
      obtain ⟨gb, hgbb⟩ : ∃ gb : Bool, gb = decide (gn = 1) := ⟨_, rfl⟩
      have hge : ((gn : Int) == 1) = gb := by rw [hgbb, Bool.eq_iff_iff]; simp; omega
      have HP := Lib.hid (show rowP l i = ⟨kk, (oo : Int), (ll : Int), cc, gb⟩ from by rw [hkk, hoo, hll, hcc, hgbb, hgn]; rfl)
      have E20 := Lib.hid (show fld y 20 4 = gn from by rw [HF.out 20 4 (by omega), hgn]; show fld l _ 4 = fld l _ 4; congr 1; omega)
      have E0 := Lib.hid (show fld y 0 8 = kk from by rw [HF.out 0 8 (by omega), hkk]; rfl)
      have E8 := Lib.hid (show fld y 8 4 = oo from by rw [HF.out 8 4 (by omega), hoo]; congr 1; omega)
      have E12 := Lib.hid (show fld y 12 4 = ll from by rw [HF.out 12 4 (by omega), hll]; congr 1; omega)
      have E16 := Lib.hid (show fld y 16 4 = cc from by rw [HF.out 16 4 (by omega), hcc]; congr 1; omega)
      have HGN := Lib.hid hgn
      clear hgn hkk hoo hll hcc hgbb HF HSL
      go_wp2_with fail
      refine (numb_fld z20 y 20 4 _ J20.out (by decide)).mono ?_
      rintro e w' ⟨rfl, rfl⟩
      rw [E20.out]
      go_upto_region 18 with fail
      go_cut [9] from 87 to 104 (fun p wx => p = .pointer (some ⟨wr.heap.size, 0, none⟩) ∧ PBox wx wr.heap.size ⟨kk, (oo : Int), (ll : Int), cc, gb⟩ ∧ Below wr.heap.size wr wx ∧ wr.heap.size < wx.heap.size)
      case first =>
        have HNz : PBox (wr.drew.alloc (.cells #[.int .u64 0, .int .i64 0, .int .i64 0, .int .u32 0, .bool false] 50)) wr.heap.size pzero := PBox.new wr.drew 0 0 0 0 false _
        have fz : ∀ o, (wr.drew.alloc (.cells #[.int .u64 0, .int .i64 0, .int .i64 0, .int .u32 0, .bool false] 50)).frozen? ⟨wr.heap.size, o, none⟩ = false := fun o => by
          show (wr.drew.alloc _).frozen? ⟨wr.drew.heap.size, o, none⟩ = false
          go_simp
        have HPb := Lib.hid (pbox_put HNz ⟨kk, (oo : Int), (ll : Int), cc, gb⟩)
        have HLb := Lib.hid (row_below (k := 0) (u0 := .int .u64 (kk : Int)) (u1 := .int .i64 (oo : Int)) (u2 := .int .i64 (ll : Int)) (u3 := .int .u32 (cc : Int)) (u4 := .bool gb) (((Below.refl wr.heap.size wr).drew).alloc (Nat.le_refl _) (.cells #[.int .u64 0, .int .i64 0, .int .i64 0, .int .u32 0, .bool false] 50)) (Nat.le_refl wr.heap.size))
        obtain ⟨c0, c1, c2, c3, c4⟩ := HNz
        have J0a := Lib.hid (show IsB (wr.drew.alloc (.cells #[.int .u64 0, .int .i64 0, .int .i64 0, .int .u32 0, .bool false] 50)) z0 ((y.drop 0).take 8) from J0.out.mono ((Below.refl wr.drew.heap.size wr.drew).alloc (Nat.le_refl _) _) (Nat.le_refl _))
        have J8a := Lib.hid (show IsB (wr.drew.alloc (.cells #[.int .u64 0, .int .i64 0, .int .i64 0, .int .u32 0, .bool false] 50)) z8 ((y.drop 8).take 4) from J8.out.mono ((Below.refl wr.drew.heap.size wr.drew).alloc (Nat.le_refl _) _) (Nat.le_refl _))
        have J12a := Lib.hid (show IsB (wr.drew.alloc (.cells #[.int .u64 0, .int .i64 0, .int .i64 0, .int .u32 0, .bool false] 50)) z12 ((y.drop 12).take 4) from J12.out.mono ((Below.refl wr.drew.heap.size wr.drew).alloc (Nat.le_refl _) _) (Nat.le_refl _))
        have J16a := Lib.hid (show IsB (wr.drew.alloc (.cells #[.int .u64 0, .int .i64 0, .int .i64 0, .int .u32 0, .bool false] 50)) z16 ((y.drop 16).take 4) from J16.out.mono ((Below.refl wr.drew.heap.size wr.drew).alloc (Nat.le_refl _) _) (Nat.le_refl _))
        go_wp2_with fail
        refine wp_region_noPanic ?_
        refine wp_region_held_drew (S := (fun _ => True)) (by kernel_rfl) (trivial) (fun hHeld => ?_)
        refine wpAnyH_take (i := 0) (v := ?_) rfl (by kernel_rfl) (by kernel_rfl) (by kernel_rfl) (fun _ _ _ h => h) (Or.inl ⟨by rfl, ?_⟩) (by assumption) ?_
        rotate_left 1
        · intro w hSw
          (try dsimp only at hSw)
          go_simp
          all_goals (with_reducible rfl)
        try simp only [Act.put, List.getElem_toArray, List.getElem_cons_zero, List.getElem_cons_succ, List.setIfInBounds_toArray, List.set_cons_zero, List.set_cons_succ]
        refine wpAnyH_take (i := 1) (v := ?_) rfl (by kernel_rfl) (by kernel_rfl) (by kernel_rfl) (fun _ _ _ h => h) (Or.inl ⟨by rfl, ?_⟩) (by assumption) ?_
        rotate_left 1
        · intro w hSw
          (try dsimp only at hSw)
          go_simp
          all_goals (with_reducible rfl)
        try simp only [Act.put, List.getElem_toArray, List.getElem_cons_zero, List.getElem_cons_succ, List.setIfInBounds_toArray, List.set_cons_zero, List.set_cons_succ]
        refine wpAnyH_take (i := 3) (v := ?_) rfl (by kernel_rfl) (by kernel_rfl) (by kernel_rfl) (fun _ _ _ h => h) (Or.inl ⟨by rfl, ?_⟩) (by assumption) ?_
        rotate_left 1
        · intro w hSw
          (try dsimp only at hSw)
          go_simp
          all_goals (with_reducible rfl)
        try simp only [Act.put, List.getElem_toArray, List.getElem_cons_zero, List.getElem_cons_succ, List.setIfInBounds_toArray, List.set_cons_zero, List.set_cons_succ]
        refine wpAnyH_take (i := 4) (v := ?_) rfl (by kernel_rfl) (by kernel_rfl) (by kernel_rfl) (fun _ _ _ h => h) (Or.inl ⟨by rfl, ?_⟩) (by assumption) ?_
        rotate_left 1
        · intro w hSw
          (try dsimp only at hSw)
          go_simp
          all_goals (with_reducible rfl)
        try simp only [Act.put, List.getElem_toArray, List.getElem_cons_zero, List.getElem_cons_succ, List.setIfInBounds_toArray, List.set_cons_zero, List.set_cons_succ]
        refine wpAnyH_take (i := 7) (v := ?_) rfl (by kernel_rfl) (by kernel_rfl) (by kernel_rfl) (fun _ _ _ h => h) (Or.inl ⟨by rfl, ?_⟩) (by assumption) ?_
        rotate_left 1
        · intro w hSw
          (try dsimp only at hSw)
          go_simp
          all_goals (with_reducible rfl)
        try simp only [Act.put, List.getElem_toArray, List.getElem_cons_zero, List.getElem_cons_succ, List.setIfInBounds_toArray, List.set_cons_zero, List.set_cons_succ]
        refine wpAnyH_take (i := 8) (v := ?_) rfl (by kernel_rfl) (by kernel_rfl) (by kernel_rfl) (fun _ _ _ h => h) (Or.inl ⟨by rfl, ?_⟩) (by assumption) ?_
        rotate_left 1
        · intro w hSw
          (try dsimp only at hSw)
          go_simp
          all_goals (with_reducible rfl)
        try simp only [Act.put, List.getElem_toArray, List.getElem_cons_zero, List.getElem_cons_succ, List.setIfInBounds_toArray, List.set_cons_zero, List.set_cons_succ]
        refine wpAnyH_take (i := 11) (v := ?_) rfl (by kernel_rfl) (by kernel_rfl) (by kernel_rfl) (fun _ _ _ h => h) (Or.inl ⟨by rfl, ?_⟩) (by assumption) ?_
        rotate_left 1
        · intro w hSw
          (try dsimp only at hSw)
          go_simp
          all_goals (with_reducible rfl)
        try simp only [Act.put, List.getElem_toArray, List.getElem_cons_zero, List.getElem_cons_succ, List.setIfInBounds_toArray, List.set_cons_zero, List.set_cons_succ]
        refine wpAnyH_take (i := 12) (v := ?_) rfl (by kernel_rfl) (by kernel_rfl) (by kernel_rfl) (fun _ _ _ h => h) (Or.inl ⟨by rfl, ?_⟩) (by assumption) ?_
        rotate_left 1
        · intro w hSw
          (try dsimp only at hSw)
          go_simp
          all_goals (with_reducible rfl)
        try simp only [Act.put, List.getElem_toArray, List.getElem_cons_zero, List.getElem_cons_succ, List.setIfInBounds_toArray, List.set_cons_zero, List.set_cons_succ]
        refine wpAnyH_take (i := 15) (v := ?_) rfl (by kernel_rfl) (by kernel_rfl) (by kernel_rfl) (fun _ _ _ h => h) (Or.inl ⟨by rfl, ?_⟩) (by assumption) ?_
        rotate_left 1
        · intro w hSw
          (try dsimp only at hSw)
          go_simp
          all_goals (with_reducible rfl)
        try simp only [Act.put, List.getElem_toArray, List.getElem_cons_zero, List.getElem_cons_succ, List.setIfInBounds_toArray, List.set_cons_zero, List.set_cons_succ]
        refine wpAnyH_take (i := 16) (v := ?_) rfl (by kernel_rfl) (by kernel_rfl) (by kernel_rfl) (fun _ _ _ h => h) (Or.inl ⟨by rfl, ?_⟩) (by assumption) ?_
        rotate_left 1
        · intro w hSw
          (try dsimp only at hSw)
          go_simp
          all_goals (with_reducible rfl)
        try simp only [Act.put, List.getElem_toArray, List.getElem_cons_zero, List.getElem_cons_succ, List.setIfInBounds_toArray, List.set_cons_zero, List.set_cons_succ]
        refine wpAnyH_ready (rs := [2, 18]) (by kernel_rfl) (by simp) ?_
        refine AllReadyH.cons rfl (fun K hK => ?_) ?_
        · go_simp
          go_at_call 29
          refine (numb_fld z0 y 0 8 _ J0.out (by decide)).mono ?_
          rintro e w' ⟨rfl, rfl⟩
          rw [E0.out]
          go_wp2_with fail
          refine hK.out _ _ trivial (fun hHeld => ?_)
          clear hK K
          try simp only [Act.put, List.getElem_toArray, List.getElem_cons_zero, List.getElem_cons_succ, List.setIfInBounds_toArray, List.set_cons_zero, List.set_cons_succ]
          refine wpAnyH_ready (rs := [5, 18]) (by kernel_rfl) (by simp) ?_
          refine AllReadyH.cons rfl (fun K hK => ?_) ?_
          · go_simp
            go_at_call 29
            refine (numb_fld z8 y 8 4 _ J8.out (by decide)).mono ?_
            rintro e w' ⟨rfl, rfl⟩
            rw [E8.out]
            go_wp2_with fail
            refine hK.out _ _ trivial (fun hHeld => ?_)
            clear hK K
            try simp only [Act.put, List.getElem_toArray, List.getElem_cons_zero, List.getElem_cons_succ, List.setIfInBounds_toArray, List.set_cons_zero, List.set_cons_succ]
            refine wpAnyH_take (i := 6) (v := ?_) rfl (by kernel_rfl) (by kernel_rfl) (by kernel_rfl) (fun _ _ _ h => h) (Or.inl ⟨by rfl, ?_⟩) (by assumption) ?_
            rotate_left 1
            · intro w hSw
              (try dsimp only at hSw)
              go_simp
              all_goals (with_reducible rfl)
            try simp only [Act.put, List.getElem_toArray, List.getElem_cons_zero, List.getElem_cons_succ, List.setIfInBounds_toArray, List.set_cons_zero, List.set_cons_succ]
            refine wpAnyH_ready (rs := [9, 18]) (by kernel_rfl) (by simp) ?_
            refine AllReadyH.cons rfl (fun K hK => ?_) ?_
            · go_simp
              go_at_call 29
              refine (numb_fld z12 y 12 4 _ J12.out (by decide)).mono ?_
              rintro e w' ⟨rfl, rfl⟩
              rw [E12.out]
              go_wp2_with fail
              refine hK.out _ _ trivial (fun hHeld => ?_)
              clear hK K
              try simp only [Act.put, List.getElem_toArray, List.getElem_cons_zero, List.getElem_cons_succ, List.setIfInBounds_toArray, List.set_cons_zero, List.set_cons_succ]
              refine wpAnyH_take (i := 10) (v := ?_) rfl (by kernel_rfl) (by kernel_rfl) (by kernel_rfl) (fun _ _ _ h => h) (Or.inl ⟨by rfl, ?_⟩) (by assumption) ?_
              rotate_left 1
              · intro w hSw
                (try dsimp only at hSw)
                go_simp
                all_goals (with_reducible rfl)
              try simp only [Act.put, List.getElem_toArray, List.getElem_cons_zero, List.getElem_cons_succ, List.setIfInBounds_toArray, List.set_cons_zero, List.set_cons_succ]
              refine wpAnyH_ready (rs := [13, 18]) (by kernel_rfl) (by simp) ?_
              refine AllReadyH.cons rfl (fun K hK => ?_) ?_
              · go_simp
                go_at_call 29
                refine (numb_fld z16 y 16 4 _ J16.out (by decide)).mono ?_
                rintro e w' ⟨rfl, rfl⟩
                rw [E16.out]
                go_wp2_with fail
                refine hK.out _ _ trivial (fun hHeld => ?_)
                clear hK K
                try simp only [Act.put, List.getElem_toArray, List.getElem_cons_zero, List.getElem_cons_succ, List.setIfInBounds_toArray, List.set_cons_zero, List.set_cons_succ]
                refine wpAnyH_take (i := 14) (v := ?_) rfl (by kernel_rfl) (by kernel_rfl) (by kernel_rfl) (fun _ _ _ h => h) (Or.inl ⟨by rfl, ?_⟩) (by assumption) ?_
                rotate_left 1
                · intro w hSw
                  (try dsimp only at hSw)
                  go_simp
                  all_goals (with_reducible rfl)
                try simp only [Act.put, List.getElem_toArray, List.getElem_cons_zero, List.getElem_cons_succ, List.setIfInBounds_toArray, List.set_cons_zero, List.set_cons_succ]
                refine wpAnyH_take (i := 17) (v := ?_) rfl (by kernel_rfl) (by kernel_rfl) (by kernel_rfl) (fun _ _ _ h => h) (Or.inl ⟨by rfl, ?_⟩) (by assumption) ?_
                rotate_left 1
                · intro w hSw
                  (try dsimp only at hSw)
                  go_simp
                  all_goals (with_reducible rfl)
                try simp only [Act.put, List.getElem_toArray, List.getElem_cons_zero, List.getElem_cons_succ, List.setIfInBounds_toArray, List.set_cons_zero, List.set_cons_succ]
                refine wpAnyH_ready (rs := [18]) (by kernel_rfl) (by simp) ?_
                refine AllReadyH.cons rfl (fun K hK => ?_) AllReadyH.nil
                go_simp
                refine hK.out _ _ (trivial) (fun hHeld => ?_)
                clear hK K
                try simp only [Act.put, List.getElem_toArray, List.getElem_cons_zero, List.getElem_cons_succ, List.setIfInBounds_toArray, List.set_cons_zero, List.set_cons_succ]
                refine wpAnyH_ready (rs := [19]) (by kernel_rfl) (by simp) ?_
                refine AllReadyH.cons rfl (fun K hK => ?_) AllReadyH.nil
                rw [if_pos (by rfl)]
                refine wp_store5 50 Try.sizePosR (.tmp 9) (.tmp 104) rfl wr.heap.size 0 _ _ _ _ _ (kk : Int) (oo : Int) (ll : Int) (cc : Int) gb rfl rfl c0 c1 c2 c3 c4 fz ?_
                refine hK.out _ _ (trivial) (fun hHeld => ?_)
                clear hK K
                try simp only [Act.put, List.getElem_toArray, List.getElem_cons_zero, List.getElem_cons_succ, List.setIfInBounds_toArray, List.set_cons_zero, List.set_cons_succ]
                refine wpAnyH_done (by kernel_rfl) (NoPanic.normal ?_) _
                go_wp2_with fail
                go_meet
                exact ⟨rfl, HPb.out, HLb.out, by simp⟩
              refine AllReadyH.cons rfl (fun K hK => ?_) AllReadyH.nil
              go_simp
              refine hK.out _ _ trivial (fun hHeld => ?_)
              clear hK K
              try simp only [Act.put, List.getElem_toArray, List.getElem_cons_zero, List.getElem_cons_succ, List.setIfInBounds_toArray, List.set_cons_zero, List.set_cons_succ]
              refine wpAnyH_ready (rs := [13]) (by kernel_rfl) (by simp) ?_
              refine AllReadyH.cons rfl (fun K hK => ?_) AllReadyH.nil
              go_simp
              go_at_call 29
              refine (numb_fld z16 y 16 4 _ J16a.out (by decide)).mono ?_
              rintro e w' ⟨rfl, rfl⟩
              rw [E16.out]
              go_wp2_with fail
              refine hK.out _ _ (trivial) (fun hHeld => ?_)
              clear hK K
              try simp only [Act.put, List.getElem_toArray, List.getElem_cons_zero, List.getElem_cons_succ, List.setIfInBounds_toArray, List.set_cons_zero, List.set_cons_succ]
              refine wpAnyH_take (i := 14) (v := ?_) rfl (by kernel_rfl) (by kernel_rfl) (by kernel_rfl) (fun _ _ _ h => h) (Or.inl ⟨by rfl, ?_⟩) (by assumption) ?_
              rotate_left 1
              · intro w hSw
                (try dsimp only at hSw)
                go_simp
                all_goals (with_reducible rfl)
              try simp only [Act.put, List.getElem_toArray, List.getElem_cons_zero, List.getElem_cons_succ, List.setIfInBounds_toArray, List.set_cons_zero, List.set_cons_succ]
              refine wpAnyH_take (i := 17) (v := ?_) rfl (by kernel_rfl) (by kernel_rfl) (by kernel_rfl) (fun _ _ _ h => h) (Or.inl ⟨by rfl, ?_⟩) (by assumption) ?_
              rotate_left 1
              · intro w hSw
                (try dsimp only at hSw)
                go_simp
                all_goals (with_reducible rfl)
              try simp only [Act.put, List.getElem_toArray, List.getElem_cons_zero, List.getElem_cons_succ, List.setIfInBounds_toArray, List.set_cons_zero, List.set_cons_succ]
              refine wpAnyH_ready (rs := [19]) (by kernel_rfl) (by simp) ?_
              refine AllReadyH.cons rfl (fun K hK => ?_) AllReadyH.nil
              rw [if_pos (by rfl)]
              refine wp_store5 50 Try.sizePosR (.tmp 9) (.tmp 104) rfl wr.heap.size 0 _ _ _ _ _ (kk : Int) (oo : Int) (ll : Int) (cc : Int) gb rfl rfl c0 c1 c2 c3 c4 fz ?_
              refine hK.out _ _ (trivial) (fun hHeld => ?_)
              clear hK K
              try simp only [Act.put, List.getElem_toArray, List.getElem_cons_zero, List.getElem_cons_succ, List.setIfInBounds_toArray, List.set_cons_zero, List.set_cons_succ]
              refine wpAnyH_done (by kernel_rfl) (NoPanic.normal ?_) _
              go_wp2_with fail
              go_meet
              exact ⟨rfl, HPb.out, HLb.out, by simp⟩
            refine AllReadyH.cons rfl (fun K hK => ?_) AllReadyH.nil
            go_simp
            refine hK.out _ _ trivial (fun hHeld => ?_)
            clear hK K
            try simp only [Act.put, List.getElem_toArray, List.getElem_cons_zero, List.getElem_cons_succ, List.setIfInBounds_toArray, List.set_cons_zero, List.set_cons_succ]
            refine wpAnyH_ready (rs := [9]) (by kernel_rfl) (by simp) ?_
            refine AllReadyH.cons rfl (fun K hK => ?_) AllReadyH.nil
            go_simp
            go_at_call 29
            refine (numb_fld z12 y 12 4 _ J12a.out (by decide)).mono ?_
            rintro e w' ⟨rfl, rfl⟩
            rw [E12.out]
            go_wp2_with fail
            refine hK.out _ _ (trivial) (fun hHeld => ?_)
            clear hK K
            try simp only [Act.put, List.getElem_toArray, List.getElem_cons_zero, List.getElem_cons_succ, List.setIfInBounds_toArray, List.set_cons_zero, List.set_cons_succ]
            refine wpAnyH_take (i := 10) (v := ?_) rfl (by kernel_rfl) (by kernel_rfl) (by kernel_rfl) (fun _ _ _ h => h) (Or.inl ⟨by rfl, ?_⟩) (by assumption) ?_
            rotate_left 1
            · intro w hSw
              (try dsimp only at hSw)
              go_simp
              all_goals (with_reducible rfl)
            try simp only [Act.put, List.getElem_toArray, List.getElem_cons_zero, List.getElem_cons_succ, List.setIfInBounds_toArray, List.set_cons_zero, List.set_cons_succ]
            refine wpAnyH_ready (rs := [13]) (by kernel_rfl) (by simp) ?_
            refine AllReadyH.cons rfl (fun K hK => ?_) AllReadyH.nil
            go_simp
            go_at_call 29
            refine (numb_fld z16 y 16 4 _ J16a.out (by decide)).mono ?_
            rintro e w' ⟨rfl, rfl⟩
            rw [E16.out]
            go_wp2_with fail
            refine hK.out _ _ (trivial) (fun hHeld => ?_)
            clear hK K
            try simp only [Act.put, List.getElem_toArray, List.getElem_cons_zero, List.getElem_cons_succ, List.setIfInBounds_toArray, List.set_cons_zero, List.set_cons_succ]
            refine wpAnyH_take (i := 14) (v := ?_) rfl (by kernel_rfl) (by kernel_rfl) (by kernel_rfl) (fun _ _ _ h => h) (Or.inl ⟨by rfl, ?_⟩) (by assumption) ?_
            rotate_left 1
            · intro w hSw
              (try dsimp only at hSw)
              go_simp
              all_goals (with_reducible rfl)
            try simp only [Act.put, List.getElem_toArray, List.getElem_cons_zero, List.getElem_cons_succ, List.setIfInBounds_toArray, List.set_cons_zero, List.set_cons_succ]
            refine wpAnyH_take (i := 17) (v := ?_) rfl (by kernel_rfl) (by kernel_rfl) (by kernel_rfl) (fun _ _ _ h => h) (Or.inl ⟨by rfl, ?_⟩) (by assumption) ?_
            rotate_left 1
            · intro w hSw
              (try dsimp only at hSw)
              go_simp
              all_goals (with_reducible rfl)
            try simp only [Act.put, List.getElem_toArray, List.getElem_cons_zero, List.getElem_cons_succ, List.setIfInBounds_toArray, List.set_cons_zero, List.set_cons_succ]
            refine wpAnyH_ready (rs := [19]) (by kernel_rfl) (by simp) ?_
            refine AllReadyH.cons rfl (fun K hK => ?_) AllReadyH.nil
            rw [if_pos (by rfl)]
            refine wp_store5 50 Try.sizePosR (.tmp 9) (.tmp 104) rfl wr.heap.size 0 _ _ _ _ _ (kk : Int) (oo : Int) (ll : Int) (cc : Int) gb rfl rfl c0 c1 c2 c3 c4 fz ?_
            refine hK.out _ _ (trivial) (fun hHeld => ?_)
            clear hK K
            try simp only [Act.put, List.getElem_toArray, List.getElem_cons_zero, List.getElem_cons_succ, List.setIfInBounds_toArray, List.set_cons_zero, List.set_cons_succ]
            refine wpAnyH_done (by kernel_rfl) (NoPanic.normal ?_) _
            go_wp2_with fail
            go_meet
            exact ⟨rfl, HPb.out, HLb.out, by simp⟩
          refine AllReadyH.cons rfl (fun K hK => ?_) AllReadyH.nil
          go_simp
          refine hK.out _ _ trivial (fun hHeld => ?_)
          clear hK K
          try simp only [Act.put, List.getElem_toArray, List.getElem_cons_zero, List.getElem_cons_succ, List.setIfInBounds_toArray, List.set_cons_zero, List.set_cons_succ]
          refine wpAnyH_ready (rs := [5]) (by kernel_rfl) (by simp) ?_
          refine AllReadyH.cons rfl (fun K hK => ?_) AllReadyH.nil
          go_simp
          go_at_call 29
          refine (numb_fld z8 y 8 4 _ J8a.out (by decide)).mono ?_
          rintro e w' ⟨rfl, rfl⟩
          rw [E8.out]
          go_wp2_with fail
          refine hK.out _ _ (trivial) (fun hHeld => ?_)
          clear hK K
          try simp only [Act.put, List.getElem_toArray, List.getElem_cons_zero, List.getElem_cons_succ, List.setIfInBounds_toArray, List.set_cons_zero, List.set_cons_succ]
          refine wpAnyH_take (i := 6) (v := ?_) rfl (by kernel_rfl) (by kernel_rfl) (by kernel_rfl) (fun _ _ _ h => h) (Or.inl ⟨by rfl, ?_⟩) (by assumption) ?_
          rotate_left 1
          · intro w hSw
            (try dsimp only at hSw)
            go_simp
            all_goals (with_reducible rfl)
          try simp only [Act.put, List.getElem_toArray, List.getElem_cons_zero, List.getElem_cons_succ, List.setIfInBounds_toArray, List.set_cons_zero, List.set_cons_succ]
          refine wpAnyH_ready (rs := [9]) (by kernel_rfl) (by simp) ?_
          refine AllReadyH.cons rfl (fun K hK => ?_) AllReadyH.nil
          go_simp
          go_at_call 29
          refine (numb_fld z12 y 12 4 _ J12a.out (by decide)).mono ?_
          rintro e w' ⟨rfl, rfl⟩
          rw [E12.out]
          go_wp2_with fail
          refine hK.out _ _ (trivial) (fun hHeld => ?_)
          clear hK K
          try simp only [Act.put, List.getElem_toArray, List.getElem_cons_zero, List.getElem_cons_succ, List.setIfInBounds_toArray, List.set_cons_zero, List.set_cons_succ]
          refine wpAnyH_take (i := 10) (v := ?_) rfl (by kernel_rfl) (by kernel_rfl) (by kernel_rfl) (fun _ _ _ h => h) (Or.inl ⟨by rfl, ?_⟩) (by assumption) ?_
          rotate_left 1
          · intro w hSw
            (try dsimp only at hSw)
            go_simp
            all_goals (with_reducible rfl)
          try simp only [Act.put, List.getElem_toArray, List.getElem_cons_zero, List.getElem_cons_succ, List.setIfInBounds_toArray, List.set_cons_zero, List.set_cons_succ]
          refine wpAnyH_ready (rs := [13]) (by kernel_rfl) (by simp) ?_
          refine AllReadyH.cons rfl (fun K hK => ?_) AllReadyH.nil
          go_simp
          go_at_call 29
          refine (numb_fld z16 y 16 4 _ J16a.out (by decide)).mono ?_
          rintro e w' ⟨rfl, rfl⟩
          rw [E16.out]
          go_wp2_with fail
          refine hK.out _ _ (trivial) (fun hHeld => ?_)
          clear hK K
          try simp only [Act.put, List.getElem_toArray, List.getElem_cons_zero, List.getElem_cons_succ, List.setIfInBounds_toArray, List.set_cons_zero, List.set_cons_succ]
          refine wpAnyH_take (i := 14) (v := ?_) rfl (by kernel_rfl) (by kernel_rfl) (by kernel_rfl) (fun _ _ _ h => h) (Or.inl ⟨by rfl, ?_⟩) (by assumption) ?_
          rotate_left 1
          · intro w hSw
            (try dsimp only at hSw)
            go_simp
            all_goals (with_reducible rfl)
          try simp only [Act.put, List.getElem_toArray, List.getElem_cons_zero, List.getElem_cons_succ, List.setIfInBounds_toArray, List.set_cons_zero, List.set_cons_succ]
          refine wpAnyH_take (i := 17) (v := ?_) rfl (by kernel_rfl) (by kernel_rfl) (by kernel_rfl) (fun _ _ _ h => h) (Or.inl ⟨by rfl, ?_⟩) (by assumption) ?_
          rotate_left 1
          · intro w hSw
            (try dsimp only at hSw)
            go_simp
            all_goals (with_reducible rfl)
          try simp only [Act.put, List.getElem_toArray, List.getElem_cons_zero, List.getElem_cons_succ, List.setIfInBounds_toArray, List.set_cons_zero, List.set_cons_succ]
          refine wpAnyH_ready (rs := [19]) (by kernel_rfl) (by simp) ?_
          refine AllReadyH.cons rfl (fun K hK => ?_) AllReadyH.nil
          rw [if_pos (by rfl)]
          refine wp_store5 50 Try.sizePosR (.tmp 9) (.tmp 104) rfl wr.heap.size 0 _ _ _ _ _ (kk : Int) (oo : Int) (ll : Int) (cc : Int) gb rfl rfl c0 c1 c2 c3 c4 fz ?_
          refine hK.out _ _ (trivial) (fun hHeld => ?_)
          clear hK K
          try simp only [Act.put, List.getElem_toArray, List.getElem_cons_zero, List.getElem_cons_succ, List.setIfInBounds_toArray, List.set_cons_zero, List.set_cons_succ]
          refine wpAnyH_done (by kernel_rfl) (NoPanic.normal ?_) _
          go_wp2_with fail
          go_meet
          exact ⟨rfl, HPb.out, HLb.out, by simp⟩
        refine AllReadyH.cons rfl (fun K hK => ?_) AllReadyH.nil
        go_simp
        refine hK.out _ _ trivial (fun hHeld => ?_)
        clear hK K
        try simp only [Act.put, List.getElem_toArray, List.getElem_cons_zero, List.getElem_cons_succ, List.setIfInBounds_toArray, List.set_cons_zero, List.set_cons_succ]
        refine wpAnyH_ready (rs := [2]) (by kernel_rfl) (by simp) ?_
        refine AllReadyH.cons rfl (fun K hK => ?_) AllReadyH.nil
        go_simp
        go_at_call 29
        refine (numb_fld z0 y 0 8 _ J0a.out (by decide)).mono ?_
        rintro e w' ⟨rfl, rfl⟩
        rw [E0.out]
        go_wp2_with fail
        refine hK.out _ _ (trivial) (fun hHeld => ?_)
        clear hK K
        try simp only [Act.put, List.getElem_toArray, List.getElem_cons_zero, List.getElem_cons_succ, List.setIfInBounds_toArray, List.set_cons_zero, List.set_cons_succ]
        refine wpAnyH_ready (rs := [5]) (by kernel_rfl) (by simp) ?_
        refine AllReadyH.cons rfl (fun K hK => ?_) AllReadyH.nil
        go_simp
        go_at_call 29
        refine (numb_fld z8 y 8 4 _ J8a.out (by decide)).mono ?_
        rintro e w' ⟨rfl, rfl⟩
        rw [E8.out]
        go_wp2_with fail
        refine hK.out _ _ (trivial) (fun hHeld => ?_)
        clear hK K
        try simp only [Act.put, List.getElem_toArray, List.getElem_cons_zero, List.getElem_cons_succ, List.setIfInBounds_toArray, List.set_cons_zero, List.set_cons_succ]
        refine wpAnyH_take (i := 6) (v := ?_) rfl (by kernel_rfl) (by kernel_rfl) (by kernel_rfl) (fun _ _ _ h => h) (Or.inl ⟨by rfl, ?_⟩) (by assumption) ?_
        rotate_left 1
        · intro w hSw
          (try dsimp only at hSw)
          go_simp
          all_goals (with_reducible rfl)
        try simp only [Act.put, List.getElem_toArray, List.getElem_cons_zero, List.getElem_cons_succ, List.setIfInBounds_toArray, List.set_cons_zero, List.set_cons_succ]
        refine wpAnyH_ready (rs := [9]) (by kernel_rfl) (by simp) ?_
        refine AllReadyH.cons rfl (fun K hK => ?_) AllReadyH.nil
        go_simp
        go_at_call 29
        refine (numb_fld z12 y 12 4 _ J12a.out (by decide)).mono ?_
        rintro e w' ⟨rfl, rfl⟩
        rw [E12.out]
        go_wp2_with fail
        refine hK.out _ _ (trivial) (fun hHeld => ?_)
        clear hK K
        try simp only [Act.put, List.getElem_toArray, List.getElem_cons_zero, List.getElem_cons_succ, List.setIfInBounds_toArray, List.set_cons_zero, List.set_cons_succ]
        refine wpAnyH_take (i := 10) (v := ?_) rfl (by kernel_rfl) (by kernel_rfl) (by kernel_rfl) (fun _ _ _ h => h) (Or.inl ⟨by rfl, ?_⟩) (by assumption) ?_
        rotate_left 1
        · intro w hSw
          (try dsimp only at hSw)
          go_simp
          all_goals (with_reducible rfl)
        try simp only [Act.put, List.getElem_toArray, List.getElem_cons_zero, List.getElem_cons_succ, List.setIfInBounds_toArray, List.set_cons_zero, List.set_cons_succ]
        refine wpAnyH_ready (rs := [13]) (by kernel_rfl) (by simp) ?_
        refine AllReadyH.cons rfl (fun K hK => ?_) AllReadyH.nil
        go_simp
        go_at_call 29
        refine (numb_fld z16 y 16 4 _ J16a.out (by decide)).mono ?_
        rintro e w' ⟨rfl, rfl⟩
        rw [E16.out]
        go_wp2_with fail
        refine hK.out _ _ (trivial) (fun hHeld => ?_)
        clear hK K
        try simp only [Act.put, List.getElem_toArray, List.getElem_cons_zero, List.getElem_cons_succ, List.setIfInBounds_toArray, List.set_cons_zero, List.set_cons_succ]
        refine wpAnyH_take (i := 14) (v := ?_) rfl (by kernel_rfl) (by kernel_rfl) (by kernel_rfl) (fun _ _ _ h => h) (Or.inl ⟨by rfl, ?_⟩) (by assumption) ?_
        rotate_left 1
        · intro w hSw
          (try dsimp only at hSw)
          go_simp
          all_goals (with_reducible rfl)
        try simp only [Act.put, List.getElem_toArray, List.getElem_cons_zero, List.getElem_cons_succ, List.setIfInBounds_toArray, List.set_cons_zero, List.set_cons_succ]
        refine wpAnyH_take (i := 17) (v := ?_) rfl (by kernel_rfl) (by kernel_rfl) (by kernel_rfl) (fun _ _ _ h => h) (Or.inl ⟨by rfl, ?_⟩) (by assumption) ?_
        rotate_left 1
        · intro w hSw
          (try dsimp only at hSw)
          go_simp
          all_goals (with_reducible rfl)
        try simp only [Act.put, List.getElem_toArray, List.getElem_cons_zero, List.getElem_cons_succ, List.setIfInBounds_toArray, List.set_cons_zero, List.set_cons_succ]
        refine wpAnyH_ready (rs := [19]) (by kernel_rfl) (by simp) ?_
        refine AllReadyH.cons rfl (fun K hK => ?_) AllReadyH.nil
        rw [if_pos (by rfl)]
        refine wp_store5 50 Try.sizePosR (.tmp 9) (.tmp 104) rfl wr.heap.size 0 _ _ _ _ _ (kk : Int) (oo : Int) (ll : Int) (cc : Int) gb rfl rfl c0 c1 c2 c3 c4 fz ?_
        refine hK.out _ _ (trivial) (fun hHeld => ?_)
        clear hK K
        try simp only [Act.put, List.getElem_toArray, List.getElem_cons_zero, List.getElem_cons_succ, List.setIfInBounds_toArray, List.set_cons_zero, List.set_cons_succ]
        refine wpAnyH_done (by kernel_rfl) (NoPanic.normal ?_) _
        go_wp2_with fail
        go_meet
        exact ⟨rfl, HPb.out, HLb.out, by simp⟩
      case rest =>
      obtain ⟨rfl, hP5, hb5, hp5⟩ := hcut
      obtain ⟨w5, hw5⟩ : ∃ w5, w5 = wc := ⟨_, rfl⟩
      subst hw5
      have HC5 := Lib.hid (HC4.out.mono hb5 hgz)
      have HO5 := Lib.hid (ownsRow_below HO4.out hb5 (Nat.le_refl _))
      have HF5 := Lib.hid (thaw_below HF4.out hb5 hgz)
      have HB5 := Lib.hid (HB4.out.trans (hb5.mono (Nat.le_of_lt hgz)))
      have HV5 := Lib.hid (HV4.out.mono hb5 (Nat.le_refl _))
      have HX5 := Lib.hid (HX4.out.mono hb5 (by omega))
      have HZ5 := Lib.hid (thaw_below HZ4.out hb5 (by omega))
      have HW5 := Lib.hid (HBW.out.trans (hb5.mono HBW.out.size))
      have HP5 := Lib.hid hP5
      have hgz5 : g + 1 ≤ w5.heap.size := by omega
      clear hb5 hP5 HC4 HO4 HF4 HB4 HV4 HX4 HZ4 HBW J0 J8 J12 J16 J20 k20 k0 k8 k12 k16 qx
      by_cases hg1' : 1 < gn
      · have hgb : decide ((1 : Int) < (gn : Int)) = true := decide_eq_true (by omega)
        have HKK := Lib.hid (getK_gone HQ.out HS.out (gAll_no (by rw [HCN.out]; exact hlt) (by rw [← HGN.out]; exact hg1')))
        have HRC := Lib.hid (resC_no (l := l) (by rw [HKK.out]; decide))
        obtain ⟨z0', z1', z2', z3'⟩ := HX5.out
        have hth := HZ5.out
        clear hg1'
        go_wp2
        refine bodyPost_ret (v := .tuple #[cval czero (.slice none 0 0), .int .i64 4]) (by simp [results, Try.results14, go_sem, z0', z1', z2', z3', czero]) rfl ⟨none, 0, by rw [HRC.out, HKK.out]; rfl, ?_, (((HW5.out.setCell (Nat.le_refl _) _).setCell (Nat.le_refl _) _).setCell (Nat.le_refl _) _).setCell (Nat.le_refl _) _⟩
        rw [HRC.out]
        exact IsP.nil _
      · have hgb : decide ((1 : Int) < (gn : Int)) = false := decide_eq_false (by omega)
        have HR5 := Lib.hid (show ∀ j, j < i + 1 → rowG l j ≤ 1 from fun j hj => by
          by_cases hji : j < i
          · exact HR4.out j hji
          · obtain rfl : j = i := by omega
            rw [← HGN.out]
            omega)
        have HPT := Lib.hid (show pcs (rowsP l (i + 1)) = pcs (rowsP l i) ++ pcells ⟨kk, (oo : Int), (ll : Int), cc, gb⟩ from by rw [rowsP_snoc, pcs_append, HP.out]; simp [pcs])
        obtain ⟨X, hX⟩ : ∃ X, X = pcs (rowsP l i) := ⟨_, rfl⟩
        rw [← hX] at HO5 HPT
        clear hX hg1' hge
        obtain ⟨c0, c1, c2, c3⟩ := HC5.out
        obtain ⟨p0, p1, p2, p3, p4⟩ := HP5.out
        go_wp2_with (at_builtin; refine wpList_append_own _ rfl _ _ 22 rfl (g + 1) 50 ip _ 5 32 Try.underlying22 hip hp0 hp1 hp2 rfl (by decide) _ _ _ rfl (HO5.out.alloc _) ⟨w5.heap.size, 0, none⟩ 1 1 (pcells ⟨kk, (oo : Int), (ll : Int), cc, gb⟩) rfl rfl ?c1 ?c2 ?c3 ?c4 ?c5 ?_)
        case c1 => first | exact cell_five_new _ ⟨kk, (oo : Int), (ll : Int), cc, gb⟩ _ | exact fun j u h => h
        case c2 => exact pcells_one ⟨kk, (oo : Int), (ll : Int), cc, gb⟩
        case c3 => unfold maxLen; omega
        case c4 => omega
        case c5 => first | (simp; omega) | omega
        intro v' w6 hown' hgrow _
        obtain ⟨x6, c6, rfl⟩ := ownsRow_slice hown'
        have hba : Below (g + 1) w5 (w5.alloc (.cells #[.int .u64 (kk : Int), .int .i64 (oo : Int), .int .i64 (ll : Int), .int .u32 (cc : Int), .bool gb] 50)) := (Below.refl _ _).alloc hgz5 _
        have hb56 : Below (g + 1) w5 w6 := hba.grown hgrow (by simp; omega) (fun j hj => (HO5.out.lt j hj).1)
        have HC6 := Lib.hid (HC5.out.mono hb56 (Nat.lt_succ_self _))
        have HF6 := Lib.hid (thaw_below HF5.out hb56 (Nat.lt_succ_self _))
        have HB6 := Lib.hid (HB5.out.trans (hb56.mono (Nat.le_succ _)))
        have HO6 := Lib.hid (show w6.ownsRow (g + 1) 50 5 (.slice x6 (i + 1) c6) (i + 1) (pcs (rowsP l (i + 1))) from by rw [HPT.out]; exact hown')
        have hz6 : g < w6.heap.size := Nat.lt_of_lt_of_le (by omega) hb56.size
        clear hown' hgrow hba hb56 c0 c1 c2 c3 p0 p1 p2 p3 p4
        obtain ⟨c0, c1, c2, c3⟩ := HC6.out
        have fz6 := HF6.out
        have HC7 := Lib.hid (boxC_set3 HC6.out (.slice x6 (i + 1) c6))
        have HO7 := Lib.hid (ownsRow_setCell_below HO6.out (a := ⟨g, 3, none⟩) (Nat.lt_succ_self _) (.slice x6 (i + 1) c6))
        have HF7 := Lib.hid (thaw_set fz6 (k := 3) (u := .slice x6 (i + 1) c6))
        have HB7 := Lib.hid (HB6.out.setCell (p := ⟨g, 3, none⟩) (Nat.le_refl _) (.slice x6 (i + 1) c6))
        have HV7 := Lib.hid (HV.out.mono (HB1.out.trans (HB7.out.mono (Nat.le_of_lt hgw))) (Nat.le_refl _))
        have hz7 : g < (w6.setCell ⟨g, 3, none⟩ (.slice x6 (i + 1) c6)).heap.size := by simp; exact hz6
        go_wp2
        go_roundw
        case rel => exact ⟨i + 1, by omega, by go_num, x6, c6, HC7, HO7, HF7, HB7, HV7, hz7, HR5⟩
        case measure => simp [intOf]; omega
    · obtain rfl : n = i := by omega
      have HG0 := Lib.hid (gAll_of (l := l) fun j hj => HR4.out j (by rw [← HCN.out]; exact hj))
      have HPl := Lib.hid (IsP.own HO4.out (length_rowsP l n).symm)
      have HCR := Lib.hid (show cright ⟨(a : Int), (b : Int), (d : Int), rowsP l n⟩ = cright (getC l) from by rw [HGC.out])
      obtain ⟨c0, c1, c2, c3⟩ := HC4.out
      go_wp2_with fail
      refine (refright_any ⟨(a : Int), (b : Int), (d : Int), rowsP l n⟩ _ _ HPl.out).mono ?_
      rintro e w6 ⟨rfl, hb6⟩
      rw [HCR.out]
      clear c0 c1 c2 c3
      have HC6 := Lib.hid (HC4.out.mono hb6 hgz)
      have HB6 := Lib.hid (HBW.out.trans (hb6.mono HBW.out.size))
      have HP6 := Lib.hid (HPl.out.mono hb6 (Nat.le_refl _))
      have HO6 := Lib.hid (ownsRow_below HO4.out hb6 (Nat.le_refl _))
      obtain ⟨z0, z1, z2, z3⟩ := HX4.out.mono hb6 (by omega)
      have hth := thaw_below HZ4.out hb6 (by omega)
      clear hb6
      by_cases hcr : cright (getC l) = 0
      · have HKK := Lib.hid (getK_ok HQ.out HS.out HG0.out hcr)
        have HRC := Lib.hid ((resC_ok HKK.out).trans HGC.out)
        have hlr : (rowsP l n).length = n := length_rowsP l n
        rw [hcr]
        obtain ⟨c0, c1, c2, c3⟩ := HC6.out
        clear hcr
        go_wp2
        refine bodyPost_ret (v := .tuple #[.agg #[.int .i64 (a : Int), .int .i64 (b : Int), .int .i64 (d : Int), .slice x n c], .int .i64 0]) (by simp [results, Try.results14, go_sem, z0, z1, z2, z3]) rfl ⟨x, c, ?_, ?_, (((HB6.out.setCell (Nat.le_refl _) _).setCell (Nat.le_refl _) _).setCell (Nat.le_refl _) _).setCell (Nat.le_refl _) _⟩
        · rw [HRC.out, HKK.out]
          show _ = Ending.returned (.tuple #[.agg #[_, _, _, .slice _ (rowsP l n).length c], _])
          rw [hlr]
          rfl
        · rw [HRC.out]
          show IsP _ (.slice _ (rowsP l n).length c) (rowsP l n)
          rw [hlr]
          have hne : ∀ bb off, x = some ⟨bb, off, none⟩ → bb ≠ w.heap.size := fun bb off e => by
            have := (HO6.out.lt bb (by rw [e]; rfl)).1
            omega
          exact (((HP6.out.set_other hne).set_other hne).set_other hne).set_other hne
      · have HKK := Lib.hid (getK_right HQ.out HS.out HG0.out hcr)
        have HRC := Lib.hid (resC_no (l := l) (by rw [HKK.out]; decide))
        obtain ⟨qr, hqr⟩ : ∃ qr : Nat, cright (getC l) = qr := ⟨_, rfl⟩
        rw [hqr] at hcr ⊢
        have hqb : ((qr : Int) != 0) = true := by rw [bne_iff_ne]; omega
        clear hcr hqr
        go_wp2
        refine bodyPost_ret (v := .tuple #[cval czero (.slice none 0 0), .int .i64 4]) (by simp [results, Try.results14, go_sem, z0, z1, z2, z3, czero]) rfl ⟨none, 0, by rw [HRC.out, HKK.out]; rfl, ?_, (((HB6.out.setCell (Nat.le_refl _) _).setCell (Nat.le_refl _) _).setCell (Nat.le_refl _) _).setCell (Nat.le_refl _) _⟩
        rw [HRC.out]
        exact IsP.nil _

theorem rget_any (v : Value) (l : List UInt8) (w : World) (hv : IsB w v l) (hl : l.length ≤ 1099511627776) :
    Calls Try.prog 14 #[v] w fun e w' =>
      ∃ x cap, e = .returned (.tuple #[cval (resC l) (.slice x (resC l).l.length cap), .int .i64 (getK l : Nat)]) ∧ IsP w' (.slice x (resC l).l.length cap) (resC l).l ∧ Below w.heap.size w w' := by
  by_cases h : sizedK l = 0
  · by_cases hs : sumOk l
    · exact rget_rest v l w hv hl h hs
    · have hk := getK_sum h hs
      rw [resC_no (by rw [hk]; decide), hk]
      refine (rget_sum v l w hv hl h hs).mono ?_
      rintro e w' ⟨rfl, hb⟩
      exact ⟨none, 0, rfl, IsP.nil _, hb⟩
  · have hk := getK_sized h
    have hz : getK l ≠ 0 := by rw [hk]; exact h
    rw [resC_no hz, hk]
    by_cases h24 : l.length < 24
    · rw [sizedK_short h24]
      refine (rget_short v l w hv h24).mono ?_
      rintro e w' ⟨rfl, hb⟩
      exact ⟨none, 0, rfl, IsP.nil _, hb⟩
    · refine (rget_sized v l w hv hl (by omega) h).mono ?_
      rintro e w' ⟨rfl, hb⟩
      exact ⟨none, 0, rfl, IsP.nil _, hb⟩

end Go.Proofs.Ytengfglopagdmaa
