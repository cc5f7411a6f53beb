/- The document's own answer for layer 19: Bytes. -/
import Derived.Test.YtlaighghagcjjaaRh19
import Derived.Test.YtlaighghagcjjaaRef01
namespace Go.Proofs.Ytlaighghagcjjaa
open Go.RowKit Go.Cor
set_option linter.unusedVariables false
set_option linter.unusedSimpArgs false

/-- An entry's bytes; a map's. -/
def eby (e : En) : List UInt8 := le e.ep 4 ++ [UInt8.ofNat e.a, UInt8.ofNat e.b, UInt8.ofNat e.c, if e.sl then 1 else 0]
def rby (L : List En) : List UInt8 := L.flatMap eby
theorem eby_len (e : En) : (eby e).length = 8 := rfl
theorem rby_len (L : List En) : (rby L).length = 8 * L.length := by
  induction L with
  | nil => rfl
  | cons e r ih =>
    show (eby e ++ rby r).length = _
    rw [List.length_append, eby_len, ih, List.length_cons]
    omega
theorem rby_snoc (L : List En) (e : En) : rby (L ++ [e]) = rby L ++ eby e := by simp [rby]
set_option maxRecDepth 100000 in
set_option maxHeartbeats 4000000 in
theorem rbytes19 (v : Value) (n : Nat) (L : List En) (K : Nat) (w : World) (hv : IsX w 6 v n (row ecl L)) (hln : L.length = n) (hL : LOk L K) (hK : K < 1000000) :
    Calls Try.prog 26 #[v] w fun e w' => ∃ v', e = .returned v' ∧ IsB w' v' (rby L) ∧ Below w.heap.size w w' := by
  have hlen := fun W => len_X (P := Try.prog) hv 58 3 86 Try.underlying58 W
  have hnb : n ≤ 4096 := by rw [← hln]; exact hL.len
  obtain ⟨i0, hi, hz0, hz1, hz2⟩ := info_parts Try.infoU8
  have HI0 := Lib.hid hi
  have HZ0 := Lib.hid hz0
  have HZ1 := Lib.hid hz1
  have HZ2 := Lib.hid hz2
  have HV := Lib.hid hv
  have HN := Lib.hid hln
  have HL := Lib.hid hL
  have HK := Lib.hid hK
  clear hv hln hL hK hi hz0 hz1 hz2
  go_enter Try.func26, Try.ntmps26
  go_wp2_with fail
  go_loopw [3, 4] (fun bv iv wr => ∃ (i m : Nat) (x : Option Addr) (c : Nat), i ≤ n ∧ iv = .int .i64 i ∧ bv = .slice x m c ∧ Hid (m = (rby (L.take i)).length) ∧ Hid (wr.ownsRow w.heap.size 5 1 (.slice x m c) m (bvs (rby (L.take i)))) ∧ Hid (Below w.heap.size w wr)) (fun _ iv _ => n - (intOf iv).toNat)
  case atStart => exact ⟨0, 0, none, 0, Nat.zero_le _, rfl, rfl, Lib.hid rfl, Lib.hid ⟨rfl, .inl ⟨rfl, rfl⟩⟩, Lib.hid (Below.refl _ _)⟩
  case round =>
    obtain ⟨i, m, x, c, hin, rfl, rfl, HM, HO, HB⟩ := hrel
    by_cases hlt : i < n
    · have hlt' : (i : Int) < (n : Int) := by omega
      have HI := Lib.hid hlt
      obtain ⟨⟨ev, ep, ea, eb, ec, es⟩, hy⟩ := (⟨_, List.getElem?_eq_getElem (l := L) (i := i) (by rw [HN.out]; exact hlt)⟩ : ∃ d, L[i]? = some d)
      obtain ⟨h1, h2⟩ := HL.out.ok _ (List.mem_of_getElem? hy)
      obtain ⟨q1, q2, q3, _⟩ := h1
      dsimp only at q1 q2 q3 h2
      obtain ⟨A, rfl⟩ : ∃ A : UInt8, A.toNat = ea := ⟨UInt8.ofNat ea, by rw [UInt8.toNat_ofNat']; omega⟩
      obtain ⟨B, rfl⟩ : ∃ A : UInt8, A.toNat = eb := ⟨UInt8.ofNat eb, by rw [UInt8.toNat_ofNat']; omega⟩
      obtain ⟨C, rfl⟩ : ∃ A : UInt8, A.toNat = ec := ⟨UInt8.ofNat ec, by rw [UInt8.toNat_ofNat']; omega⟩
      have hepb : ep < 1000000 := by have := HK.out; omega
      have HY := Lib.hid hy
      obtain ⟨b, o, hidx, _, hcell⟩ := indexAt_X (P := Try.prog) HV.out 58 86 Try.underlying58 Try.sizeEnR19 i hlt
      have hce := fun q (hq : q < 6) => (hcell q hq).trans (row_get ecl_len hy q hq)
      have pw : w.cell? ⟨b, o + 1, none⟩ = some (.int .i64 (ep : Int)) := hce 1 (by decide)
      have HC := Lib.hid hce
      have HBL := Lib.hid (cell_lt pw)
      have p1 : wr.cell? ⟨b, o + 1, none⟩ = some (.int .i64 (ep : Int)) := (World.cell?_of_block (w := w) (HB.out.block b HBL.out)).trans pw
      have HIX := Lib.hid hidx
      have HTK := Lib.hid (show L.take (i + 1) = L.take i ++ [⟨ev, ep, A.toNat, B.toNat, C.toNat, es⟩] from by rw [List.take_add_one, hy]; rfl)
      have HMB := Lib.hid (show m ≤ 32768 from by rw [HM.out, rby_len, List.length_take]; omega)
      clear h2 hcell hce hy hlt pw
      go_wp2_with fail
      refine (bytes_any ep 4 wr (by omega) (by decide)).mono ?_
      rintro e w2 ⟨v2, rfl, ho2, hb2⟩
      have HV2 := Lib.hid (IsB.own ho2 rfl)
      have HB2 := Lib.hid (HB.out.trans (hb2.mono HB.out.size))
      have HO2 := Lib.hid (ownsRow_below HO.out hb2 (Nat.le_refl _))
      obtain ⟨FB, hFB⟩ : ∃ z, fitsB ep 4 = z := ⟨_, rfl⟩
      rw [hFB]
      clear ho2 hb2 hFB hidx p1
      go_wp2_with (at_builtin; refine wpList_append_B (by rfl) _ _ 43 rfl w.heap.size 5 i0 Try.underlying43 HI0.out HZ0.out HZ1.out HZ2.out _ (rby (L.take i)) m rfl HO2.out HM.out v2 (le ep 4) rfl HV2.out (by rw [← HM.out]; have h1 := HMB.out; have h2 : (le ep 4).length = 4 := rfl; omega) ?hb ?_)
      case hb => exact HB2.out.size
      intro v3 w3 ho3 hb3
      obtain ⟨XS3, hXS⟩ : ∃ z, rby (L.take i) ++ le ep 4 = z := ⟨_, rfl⟩
      obtain ⟨M3, hM⟩ : ∃ z, XS3.length = z := ⟨_, rfl⟩
      have ho3 := (show w3.ownsRow w.heap.size 5 1 v3 M3 (bvs XS3) from by rw [← hM, ← hXS]; simpa using ho3)
      obtain ⟨x3, c3, rfl, _, _⟩ := ownsRow_slice ho3
      have HXS3 := Lib.hid hXS
      have HM3 := Lib.hid hM
      have HO3 := Lib.hid ho3
      have HB3 := Lib.hid (HB2.out.trans hb3)
      have HML3 := Lib.hid (show M3 = m + 4 from by rw [← hM, ← hXS, List.length_append, ← HM.out]; rfl)
      clear hXS hM ho3 hb3
      go_wp2_with fail
      go_loopw [3, 7] (fun bv kv wx => ∃ (k m4 : Nat) (x4 : Option Addr) (c4 : Nat) (XS4 : List UInt8), k ≤ 3 ∧ kv = .int .i64 k ∧ bv = .slice x4 m4 c4 ∧ Hid (XS4 = XS3 ++ [A, B, C].take k) ∧ Hid (XS4.length = m4) ∧ Hid (m4 ≤ 32768 + 4 + k) ∧ Hid (wx.ownsRow w.heap.size 5 1 (.slice x4 m4 c4) m4 (bvs XS4)) ∧ Hid (Below w.heap.size w wx)) (fun _ kv _ => 3 - (intOf kv).toNat)
      case atStart => exact ⟨0, M3, x3, c3, XS3, by decide, rfl, rfl, Lib.hid (by simp), HM3, Lib.hid (by rw [HML3.out]; have := HMB.out; omega), HO3, HB3⟩
      case round =>
        obtain ⟨k, m4, x4, c4, XS4, hk3, rfl, rfl, HE4, HM4, HML, HO4, HB4⟩ := hrel
        by_cases hlt2 : k < 3
        · have hk012 : k = 0 ∨ k = 1 ∨ k = 2 := by omega
          clear hlt2 hk3
          rcases hk012 with rfl | rfl | rfl
          · have p2 : wr.cell? ⟨b, o + 2, none⟩ = some (.int .i64 (A.toNat : Int)) := (World.cell?_of_block (w := w) (HB4.out.block b HBL.out)).trans (HC.out 2 (by decide))
            have hx9 := A.toNat_lt
            have hidx := HIX.out
            go_wp2_with (at_builtin; refine wpList_append_B (by rfl) _ _ 43 rfl w.heap.size 5 i0 Try.underlying43 HI0.out HZ0.out HZ1.out HZ2.out _ XS4 m4 rfl (HO4.out.alloc _) HM4.out.symm _ [A] rfl (IsB.lit wr [A] 5 (by simp [maxLen])) (by have h1 := HML.out; have h2 := HM4.out; simp; omega) ?hb ?_)
            case hb => have := HB4.out.size; simp; omega
            intro v5 w5 ho5 hb5
            obtain ⟨XS5, hXS⟩ : ∃ z, XS4 ++ [A] = z := ⟨_, rfl⟩
            obtain ⟨M5, hM⟩ : ∃ z, XS5.length = z := ⟨_, rfl⟩
            have ho5 := (show w5.ownsRow w.heap.size 5 1 v5 M5 (bvs XS5) from by rw [← hM, ← hXS]; simpa using ho5)
            obtain ⟨x5, c5, rfl, _, _⟩ := ownsRow_slice ho5
            have HXS5 := Lib.hid hXS
            have HM5 := Lib.hid hM
            have HO5 := Lib.hid ho5
            have HB5 := Lib.hid ((HB4.out.alloc HB4.out.size (.cells #[.int .u8 (A.toNat : Int)] 5)).trans hb5)
            clear hXS hM ho5 hb5 hidx p2 hx9
            go_wp2
            go_roundw
            case rel => exact ⟨1, M5, x5, c5, XS5, by decide, by go_num, rfl, Lib.hid (by rw [← HXS5.out, HE4.out, List.append_assoc]; rfl), HM5, Lib.hid (by rw [← HM5.out, ← HXS5.out, List.length_append, HM4.out]; have := HML.out; simp; omega), HO5, HB5⟩
            case measure => simp [intOf]
          · have p2 : wr.cell? ⟨b, o + 2 + 1, none⟩ = some (.int .i64 (B.toNat : Int)) := (World.cell?_of_block (w := w) (HB4.out.block b HBL.out)).trans (HC.out 3 (by decide))
            have hx9 := B.toNat_lt
            have hidx := HIX.out
            go_wp2_with (at_builtin; refine wpList_append_B (by rfl) _ _ 43 rfl w.heap.size 5 i0 Try.underlying43 HI0.out HZ0.out HZ1.out HZ2.out _ XS4 m4 rfl (HO4.out.alloc _) HM4.out.symm _ [B] rfl (IsB.lit wr [B] 5 (by simp [maxLen])) (by have h1 := HML.out; have h2 := HM4.out; simp; omega) ?hb ?_)
            case hb => have := HB4.out.size; simp; omega
            intro v5 w5 ho5 hb5
            obtain ⟨XS5, hXS⟩ : ∃ z, XS4 ++ [B] = z := ⟨_, rfl⟩
            obtain ⟨M5, hM⟩ : ∃ z, XS5.length = z := ⟨_, rfl⟩
            have ho5 := (show w5.ownsRow w.heap.size 5 1 v5 M5 (bvs XS5) from by rw [← hM, ← hXS]; simpa using ho5)
            obtain ⟨x5, c5, rfl, _, _⟩ := ownsRow_slice ho5
            have HXS5 := Lib.hid hXS
            have HM5 := Lib.hid hM
            have HO5 := Lib.hid ho5
            have HB5 := Lib.hid ((HB4.out.alloc HB4.out.size (.cells #[.int .u8 (B.toNat : Int)] 5)).trans hb5)
            clear hXS hM ho5 hb5 hidx p2 hx9
            go_wp2
            go_roundw
            case rel => exact ⟨2, M5, x5, c5, XS5, by decide, by go_num, rfl, Lib.hid (by rw [← HXS5.out, HE4.out, List.append_assoc]; rfl), HM5, Lib.hid (by rw [← HM5.out, ← HXS5.out, List.length_append, HM4.out]; have := HML.out; simp; omega), HO5, HB5⟩
            case measure => simp [intOf]
          · have p2 : wr.cell? ⟨b, o + 2 + 2, none⟩ = some (.int .i64 (C.toNat : Int)) := (World.cell?_of_block (w := w) (HB4.out.block b HBL.out)).trans (HC.out 4 (by decide))
            have hx9 := C.toNat_lt
            have hidx := HIX.out
            go_wp2_with (at_builtin; refine wpList_append_B (by rfl) _ _ 43 rfl w.heap.size 5 i0 Try.underlying43 HI0.out HZ0.out HZ1.out HZ2.out _ XS4 m4 rfl (HO4.out.alloc _) HM4.out.symm _ [C] rfl (IsB.lit wr [C] 5 (by simp [maxLen])) (by have h1 := HML.out; have h2 := HM4.out; simp; omega) ?hb ?_)
            case hb => have := HB4.out.size; simp; omega
            intro v5 w5 ho5 hb5
            obtain ⟨XS5, hXS⟩ : ∃ z, XS4 ++ [C] = z := ⟨_, rfl⟩
            obtain ⟨M5, hM⟩ : ∃ z, XS5.length = z := ⟨_, rfl⟩
            have ho5 := (show w5.ownsRow w.heap.size 5 1 v5 M5 (bvs XS5) from by rw [← hM, ← hXS]; simpa using ho5)
            obtain ⟨x5, c5, rfl, _, _⟩ := ownsRow_slice ho5
            have HXS5 := Lib.hid hXS
            have HM5 := Lib.hid hM
            have HO5 := Lib.hid ho5
            have HB5 := Lib.hid ((HB4.out.alloc HB4.out.size (.cells #[.int .u8 (C.toNat : Int)] 5)).trans hb5)
            clear hXS hM ho5 hb5 hidx p2 hx9
            go_wp2
            go_roundw
            case rel => exact ⟨3, M5, x5, c5, XS5, by decide, by go_num, rfl, Lib.hid (by rw [← HXS5.out, HE4.out, List.append_assoc]; rfl), HM5, Lib.hid (by rw [← HM5.out, ← HXS5.out, List.length_append, HM4.out]; have := HML.out; simp; omega), HO5, HB5⟩
            case measure => simp [intOf]
        · obtain rfl : k = 3 := by omega
          clear hlt2 hk3
          have p5 : wr.cell? ⟨b, o + 5, none⟩ = some (.bool es) := (World.cell?_of_block (w := w) (HB4.out.block b HBL.out)).trans (HC.out 5 (by decide))
          have hidx := HIX.out
          cases es with
          | true =>
            go_wp2_with (at_builtin; refine wpList_append_B (by rfl) _ _ 43 rfl w.heap.size 5 i0 Try.underlying43 HI0.out HZ0.out HZ1.out HZ2.out _ XS4 m4 rfl (HO4.out.alloc _) HM4.out.symm _ [1] rfl (IsB.lit wr [1] 5 (by simp [maxLen])) (by have h1 := HML.out; have h2 := HM4.out; simp; omega) ?hb ?_)
            case hb => have := HB4.out.size; simp; omega
            intro v6 w6 ho6 hb6
            obtain ⟨XS6, hXS⟩ : ∃ z, XS4 ++ [1] = z := ⟨_, rfl⟩
            obtain ⟨M6, hM⟩ : ∃ z, XS6.length = z := ⟨_, rfl⟩
            have ho6 := (show w6.ownsRow w.heap.size 5 1 v6 M6 (bvs XS6) from by rw [← hM, ← hXS]; simpa using ho6)
            obtain ⟨x6, c6, rfl, _, _⟩ := ownsRow_slice ho6
            have HXS6 := Lib.hid hXS
            have HM6 := Lib.hid hM
            have HO6 := Lib.hid ho6
            have HB6 := Lib.hid ((HB4.out.alloc HB4.out.size (.cells #[.int .u8 1] 5)).trans hb6)
            clear hXS hM ho6 hb6 hidx p5
            have HEQ := Lib.hid (show rby (L.take (i + 1)) = XS6 from by rw [← HXS6.out, HE4.out, ← HXS3.out, HTK.out, rby_snoc]; simp [eby])
            go_wp2
            go_roundw
            case rel => exact ⟨i + 1, M6, x6, c6, by have := HI.out; omega, by go_num, rfl, Lib.hid (by rw [HEQ.out]; exact HM6.out.symm), Lib.hid (by rw [HEQ.out]; exact HO6.out), HB6⟩
            case measure => simp [intOf] <;> (have := HI.out; omega)
          | false =>
            go_wp2_with (at_builtin; refine wpList_append_B (by rfl) _ _ 43 rfl w.heap.size 5 i0 Try.underlying43 HI0.out HZ0.out HZ1.out HZ2.out _ XS4 m4 rfl (HO4.out.alloc _) HM4.out.symm _ [0] rfl (IsB.lit wr [0] 5 (by simp [maxLen])) (by have h1 := HML.out; have h2 := HM4.out; simp; omega) ?hb ?_)
            case hb => have := HB4.out.size; simp; omega
            intro v6 w6 ho6 hb6
            obtain ⟨XS6, hXS⟩ : ∃ z, XS4 ++ [0] = z := ⟨_, rfl⟩
            obtain ⟨M6, hM⟩ : ∃ z, XS6.length = z := ⟨_, rfl⟩
            have ho6 := (show w6.ownsRow w.heap.size 5 1 v6 M6 (bvs XS6) from by rw [← hM, ← hXS]; simpa using ho6)
            obtain ⟨x6, c6, rfl, _, _⟩ := ownsRow_slice ho6
            have HXS6 := Lib.hid hXS
            have HM6 := Lib.hid hM
            have HO6 := Lib.hid ho6
            have HB6 := Lib.hid ((HB4.out.alloc HB4.out.size (.cells #[.int .u8 0] 5)).trans hb6)
            clear hXS hM ho6 hb6 hidx p5
            have HEQ := Lib.hid (show rby (L.take (i + 1)) = XS6 from by rw [← HXS6.out, HE4.out, ← HXS3.out, HTK.out, rby_snoc]; simp [eby])
            go_wp2
            go_roundw
            case rel => exact ⟨i + 1, M6, x6, c6, by have := HI.out; omega, by go_num, rfl, Lib.hid (by rw [HEQ.out]; exact HM6.out.symm), Lib.hid (by rw [HEQ.out]; exact HO6.out), HB6⟩
            case measure => simp [intOf] <;> (have := HI.out; omega)
    · obtain rfl : i = n := by omega
      have hall : L.take i = L := by rw [List.take_of_length_le (by rw [HN.out]; exact Nat.le_refl _)]
      have HALL := Lib.hid hall
      clear hall hlt
      go_wp2
      go_ret
      exact ⟨_, rfl, IsB.own (by have := HO.out; rw [HALL.out] at this; exact this) (by rw [HM.out, HALL.out]), HB.out⟩
end Go.Proofs.Ytlaighghagcjjaa
