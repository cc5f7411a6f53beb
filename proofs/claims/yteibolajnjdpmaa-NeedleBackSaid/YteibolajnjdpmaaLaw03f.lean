/- The statements of layer 3 (needle): one behind the other. -/
import Derived.Test.YteibolajnjdpmaaLaw03
import Derived.Deep.CutRange
namespace Go.Proofs.Yteibolajnjdpmaa
open Go.RowKit Go.Cor

theorem slice_l_B {P : Program} {w : World} {v : Value} {l : List UInt8} (hv : IsB w v l) (T U : TypeId) (ht : P.underlying T = some (.slice U)) (hs : (P.info? U).map (·.size) = some 1) (lo : Nat) (h2 : lo ≤ l.length) :
    ∃ sv, (∀ W, (Instr.slice T v (some (.int .i64 (lo : Int))) none none).run P W = .ok sv W) ∧ IsB w sv (l.drop lo) := by
  obtain ⟨i, hi1, hi2⟩ := Option.map_eq_some_iff.1 hs
  obtain ⟨a, cap, rfl, k1, k2, k0, k3⟩ := hv
  have ht' : P.underlying T = some (.slice (P.elem T)) := by simp [Program.elem, ht]
  have he : P.elem T = U := by simp [Program.elem, ht]
  have hsz : ∀ W, (sizeOf U).run P W = .ok 1 W := fun W => by simp [sizeOf, typeInfo, hi1, hi2]
  refine ⟨sliced a lo l.length cap 1, fun W => ?_, ?_⟩
  · rw [run_slice_l W T _ _ _ ht' .i64 _ (by omega) (by omega), he, hsz]
    simp [Result.andThen]
  · have hlen : (l.drop lo).length = l.length - lo := by simp
    unfold sliced
    refine ⟨_, _, by rw [hlen], by rw [hlen]; omega, by omega, fun hx => ?_, ?_⟩
    · split at hx
      · omega
      · have : a = none := by simpa using hx
        rw [k0 this]
        omega
    · rw [hlen]
      by_cases h0 : l.length - lo = 0
      · exact .inl h0
      · rcases k3 with k3 | ⟨b, off, rfl, hc⟩
        · omega
        · rw [if_neg (by omega)]
          refine .inr ⟨b, off + lo, by simp [add_lit], fun i hi => ?_⟩
          rw [show off + lo + i = off + (lo + i) from by omega, hc (lo + i) (by omega)]
          congr 2
          simp only [List.getD_eq_getElem?_getD, List.getElem?_drop]

/-- All their bytes. -/
def catN : List Ndl → List UInt8
  | [] => []
  | n :: r => nbytes n ++ catN r
theorem catN_append (a b : List Ndl) : catN (a ++ b) = catN a ++ catN b := by
  induction a with
  | nil => rfl
  | cons n r ih => simp [catN, ih, List.append_assoc]
theorem catN_le {ns : List Ndl} (h : ∀ n ∈ ns, n.data.length ≤ 4096) : (catN ns).length ≤ 5000 * ns.length := by
  induction ns with
  | nil => simp [catN]
  | cons n r ih =>
    have h1 := ih (fun m hm => h m (List.mem_cons_of_mem _ hm))
    have h2 := h n (List.mem_cons_self ..)
    have h3 := padn_lt n.data.length
    simp only [catN, List.length_append, length_nbytes, List.length_cons]
    omega

theorem keep8l {wz wa : World} {b1 b2 o2 o3 o4 o5 : Nat} {u0 u1 u2 u3 t0 t1 t2 t3 : Value} (hb : Below wz.heap.size wz wa)
    (K : wz.cell? ⟨b1, 0, none⟩ = some u0 ∧ wz.cell? ⟨b1, 1, none⟩ = some u1 ∧ wz.cell? ⟨b1, 2, none⟩ = some u2 ∧ wz.cell? ⟨b1, 3, none⟩ = some u3 ∧ wz.cell? ⟨b2, o2, none⟩ = some t0 ∧ wz.cell? ⟨b2, o3, none⟩ = some t1 ∧ wz.cell? ⟨b2, o4, none⟩ = some t2 ∧ wz.cell? ⟨b2, o5, none⟩ = some t3) :
    wa.cell? ⟨b1, 0, none⟩ = some u0 ∧ wa.cell? ⟨b1, 1, none⟩ = some u1 ∧ wa.cell? ⟨b1, 2, none⟩ = some u2 ∧ wa.cell? ⟨b1, 3, none⟩ = some u3 ∧ wa.cell? ⟨b2, o2, none⟩ = some t0 ∧ wa.cell? ⟨b2, o3, none⟩ = some t1 ∧ wa.cell? ⟨b2, o4, none⟩ = some t2 ∧ wa.cell? ⟨b2, o5, none⟩ = some t3 := by
  have c : ∀ (p : Addr) u, wz.cell? p = some u → wa.cell? p = some u := fun p u h => (hb.cell (cell_lt h)).trans h
  obtain ⟨K0, K1, K2, K3, K4, K5, K6, K7⟩ := K
  exact ⟨c _ _ K0, c _ _ K1, c _ _ K2, c _ _ K3, c _ _ K4, c _ _ K5, c _ _ K6, c _ _ K7⟩

/-- v is a slice of needles. -/
def IsR (w : World) (v : Value) (ns : List Ndl) : Prop :=
  ∃ b off cap, v = .slice (some ⟨b, off, none⟩) ns.length cap ∧ ns.length ≤ cap ∧ cap ≤ maxLen ∧
    ∀ i n, ns[i]? = some n → n.fits ∧ ∃ dv, w.cell? ⟨b, off + i * 4, none⟩ = some (.int .u64 (n.key : Int)) ∧ w.cell? ⟨b, off + i * 4 + 1, none⟩ = some (.int .u32 (n.cookie : Int)) ∧ w.cell? ⟨b, off + i * 4 + 2, none⟩ = some (.bool n.gone) ∧ w.cell? ⟨b, off + i * 4 + 3, none⟩ = some dv ∧ IsB w dv n.data

set_option maxRecDepth 100000 in
set_option maxHeartbeats 4000000 in
theorem needleRow_any (v : Value) (ns : List Ndl) (w : World) (hv : IsR w v ns) (hl : ns.length ≤ 20) :
    Calls Try.prog 6 #[v] w fun e w' => e = .returned (.bool true) ∧ Below w.heap.size w w' := by
  obtain ⟨i0, hi, hz0, hz1, hz2⟩ := info_parts Try.infoU8
  obtain ⟨b, off, cap, rfl, hlc, hcm, hc⟩ := hv
  obtain ⟨N, hN⟩ : ∃ N : Nat, ns.length = N := ⟨_, rfl⟩
  rw [hN] at hl hlc ⊢
  have HN := Lib.hid hN
  have HC := Lib.hid hc
  clear hN hc
  go_enter Try.func6, Try.ntmps6
  go_wp2_with fail
  refine (alive3_any _).mono ?_
  rintro e w1 ⟨rfl, hb1⟩
  have HW1 := Lib.hid hb1
  clear hb1
  go_wp2_with fail
  go_loopw [3, 4] (fun x c wr => ∃ i : Nat, i ≤ N ∧ c = .int .i64 i ∧ Hid (∀ n ∈ ns.take i, ncheck n = 0) ∧ Hid (wr.ownsRow w1.heap.size 5 1 x (catN (ns.take i)).length (bvs (catN (ns.take i)))) ∧ Hid (Below w1.heap.size w1 wr)) (fun _ c _ => N - (intOf c).toNat)
  case atStart => exact ⟨0, by omega, rfl, Lib.hid (by simp), Lib.hid (World.ownsRow_nil _ _ _ _), Lib.hid (Below.refl _ _)⟩
  case round =>
    obtain ⟨i, hiN, rfl, hK, hO, hB⟩ := hrel
    by_cases hlt : i < N
    · obtain ⟨n, hn⟩ : ∃ n, ns[i]? = some n := ⟨ns[i]'(by rw [HN.out]; exact hlt), List.getElem?_eq_getElem _⟩
      obtain ⟨hfit, dv, k0, k1, k2, k3, hdv⟩ := HC.out i n hn
      have hW := HW1.out.trans (hB.out.mono HW1.out.size)
      obtain ⟨d, hd⟩ : ∃ d : Nat, n.data.length = d := ⟨_, rfl⟩
      obtain ⟨x, cd, rfl, hlcd, hcmd⟩ := hdv.at_len hd
      have HDV := Lib.hid (hdv.mono hW (Nat.le_refl _))
      have q0 := (hW.cell (p := ⟨b, off + i * 4, none⟩) (cell_lt k0)).trans k0
      have q1 := (hW.cell (p := ⟨b, off + i * 4 + 1, none⟩) (cell_lt k1)).trans k1
      have q2 := (hW.cell (p := ⟨b, off + i * 4 + 2, none⟩) (cell_lt k2)).trans k2
      have q3 := (hW.cell (p := ⟨b, off + i * 4 + 3, none⟩) (cell_lt k3)).trans k3
      have HD := Lib.hid hd
      have HF := Lib.hid hfit
      have HNI := Lib.hid hn
      have HW := Lib.hid hW
      clear k0 k1 k2 k3 hdv hd hfit hn hW
      go_wp2_with fail
      refine (refcheck_any n _ _ HDV.out).mono ?_
      rintro e w2 ⟨rfl, hb2⟩
      have HW2 := Lib.hid (HW.out.trans (hb2.mono HW.out.size))
      have HB2 := Lib.hid (hB.out.trans (hb2.mono hB.out.size))
      by_cases hq : ncheck n = 0
      · rw [hq]
        have hd4 : d ≤ 4096 := by rw [← HD.out]; exact (ncheck_ok hq).1
        have hln : (nbytes n).length = 32 + d + padn d := by rw [length_nbytes, HD.out]
        have hmod := length_nbytes_mod n
        have hp8 := padn_lt d
        obtain ⟨L, hL⟩ : ∃ L : Nat, (nbytes n).length = L := ⟨_, rfl⟩
        have HNZ := Lib.hid (show nsize (d : Int) = (L : Int) from by rw [nsize_nat hd4, ← hL, hln])
        have hL1 : 32 ≤ L := by omega
        have hL2 : L ≤ 5000 := by omega
        have hLm : ((L : Int) % 8 != 0) = false := by rw [bne_eq_false_iff_eq]; omega
        have HL := Lib.hid hL
        have HQ := Lib.hid hq
        have HKn := Lib.hid (show ∀ m ∈ ns.take (i + 1), ncheck m = 0 from by
          intro m hm
          rw [List.take_add_one, HNI.out] at hm
          rcases List.mem_append.1 hm with h | h
          · exact hK.out m h
          · have : m = n := by simpa using h
            rw [this]
            exact hq)
        have HCS := Lib.hid (show catN (ns.take (i + 1)) = catN (ns.take i) ++ nbytes n from by rw [List.take_add_one, HNI.out, catN_append]; simp [catN])
        have hcl := catN_le (ns := ns.take i) (fun m hm => (ncheck_ok (hK.out m hm)).1)
        have HBd := Lib.hid (show (catN (ns.take i)).length + (nbytes n).length ≤ 1099511627776 from by
          have : (ns.take i).length ≤ 20 := by rw [List.length_take]; omega
          omega)
        have r0 := (hb2.cell (p := ⟨b, off + i * 4, none⟩) (cell_lt q0)).trans q0
        have r1 := (hb2.cell (p := ⟨b, off + i * 4 + 1, none⟩) (cell_lt q1)).trans q1
        have r2 := (hb2.cell (p := ⟨b, off + i * 4 + 2, none⟩) (cell_lt q2)).trans q2
        have r3 := (hb2.cell (p := ⟨b, off + i * 4 + 3, none⟩) (cell_lt q3)).trans q3
        have HDV2 := Lib.hid (HDV.out.mono hb2 (Nat.le_refl _))
        have HO2 := Lib.hid (ownsRow_below hO.out hb2 (Nat.le_refl _))
        clear q0 q1 q2 q3 hq hln hmod hp8 hL hcl hb2
        go_wp2_with fail
        refine (put_okN n _ _ HDV2.out HF.out HQ.out).mono ?_
        rintro e w3 ⟨v3, rfl, hown3, hb3⟩
        obtain ⟨x3, c3, rfl⟩ := ownsRow_slice hown3
        rw [HL.out] at hown3 ⊢
        have HR3 := Lib.hid (IsB.own hown3 HL.out.symm)
        have HW3 := Lib.hid (HW2.out.trans (hb3.mono HW2.out.size))
        have HB3 := Lib.hid (HB2.out.trans (hb3.mono HB2.out.size))
        have HO3 := Lib.hid (ownsRow_below HO2.out hb3 (Nat.le_refl _))
        have s0 := (hb3.cell (p := ⟨b, off + i * 4, none⟩) (cell_lt r0)).trans r0
        have s1 := (hb3.cell (p := ⟨b, off + i * 4 + 1, none⟩) (cell_lt r1)).trans r1
        have s2 := (hb3.cell (p := ⟨b, off + i * 4 + 2, none⟩) (cell_lt r2)).trans r2
        have s3 := (hb3.cell (p := ⟨b, off + i * 4 + 3, none⟩) (cell_lt r3)).trans r3
        have HS3 := Lib.hid HB3.out.size
        clear r0 r1 r2 r3 hown3 hb3 HO2 HB2
        go_wp2_with fail
        refine (code_nil _).mono ?_
        rintro e w' ⟨rfl, rfl⟩
        go_wp2_with fail
        refine (size_any (d : Int) _ (by omega) (by omega)).mono ?_
        rintro e w' ⟨rfl, rfl⟩
        rw [HNZ.out]
        obtain ⟨X, hX⟩ : ∃ X, X = catN (ns.take i) := ⟨_, rfl⟩
        rw [← hX] at HO3 HBd HCS
        have HXX := Lib.hid hX
        clear hX
        go_wp2_with (at_builtin; refine wpList_append_B (by rfl) _ _ 24 rfl w1.heap.size 5 i0 Try.underlying24 hi hz0 hz1 hz2 _ X _ rfl HO3.out rfl _ (nbytes n) rfl HR3.out HBd.out HS3.out ?_)
        intro v4 w4 hown4 hb4
        have HO4 := Lib.hid (show w4.ownsRow w1.heap.size 5 1 v4 (catN (ns.take (i + 1))).length (bvs (catN (ns.take (i + 1)))) from by rw [HCS.out]; simpa using hown4)
        have HB4 := Lib.hid (HB3.out.trans hb4)
        clear hown4 hb4 s0 s1 s2 s3
        go_wp2
        go_roundw
        case rel => exact ⟨i + 1, by omega, by go_num, HKn, HO4, HB4⟩
        case measure => simp [intOf]; omega
      · obtain ⟨q, hqq⟩ : ∃ q : Nat, ncheck n = q := ⟨_, rfl⟩
        rw [hqq]
        have hqb : ((q : Int) != 0) = true := by rw [bne_iff_ne]; omega
        clear hqq hq
        go_wp2
        go_ret
        exact ⟨rfl, HW2.out⟩
    · obtain rfl : N = i := by omega
      have HKall := Lib.hid (show ∀ n ∈ ns, ncheck n = 0 from by have h := hK.out; rw [List.take_of_length_le (by rw [HN.out]; exact Nat.le_refl _)] at h; exact h)
      have HX := Lib.hid (show IsB wr u3 (catN (ns.drop 0)) from by
        have h := IsB.own hO.out rfl
        rw [List.take_of_length_le (by rw [HN.out]; exact Nat.le_refl _)] at h
        exact h)
      have HWr := Lib.hid (HW1.out.trans (hB.out.mono HW1.out.size))
      clear hK hO hB
      go_wp2_with fail
      go_loopw [3, 7] (fun y c ws => ∃ j : Nat, j ≤ N ∧ c = .int .i64 j ∧ Hid (IsB ws y (catN (ns.drop j))) ∧ Hid (Below w.heap.size w ws)) (fun _ c _ => N - (intOf c).toNat)
      case atStart => exact ⟨0, by omega, rfl, HX, HWr⟩
      case round =>
        obtain ⟨i, hiN, rfl, hY, hW⟩ := hrel
        by_cases hlt : i < N
        · obtain ⟨n, hn⟩ : ∃ n, ns[i]? = some n := ⟨ns[i]'(by rw [HN.out]; exact hlt), List.getElem?_eq_getElem _⟩
          obtain ⟨hfit, dv, k0, k1, k2, k3, hdv⟩ := HC.out i n hn
          have hq := HKall.out n (List.mem_of_getElem? hn)
          have hdr : ns.drop i = n :: ns.drop (i + 1) := by
            have h1 : i < ns.length := by rw [HN.out]; exact hlt
            rw [List.drop_eq_getElem_cons h1]
            congr 1
            rw [List.getElem?_eq_getElem h1] at hn
            simpa using hn
          obtain ⟨R, hR⟩ : ∃ R, R = catN (ns.drop (i + 1)) := ⟨_, rfl⟩
          have hcat : catN (ns.drop i) = nbytes n ++ R := by rw [hdr, hR]; rfl
          have hg := get_put hfit hq R
          obtain ⟨d, hd⟩ : ∃ d : Nat, n.data.length = d := ⟨_, rfl⟩
          obtain ⟨L, hL⟩ : ∃ L : Nat, (nbytes n).length = L := ⟨_, rfl⟩
          have hRl : R.length ≤ 100000 := by
            have h1 := catN_le (ns := ns.drop (i + 1)) (fun m hm => (ncheck_ok (HKall.out m (List.mem_of_mem_drop hm))).1)
            have h2 : (ns.drop (i + 1)).length ≤ 20 := by rw [List.length_drop, HN.out]; omega
            rw [← hR] at h1
            omega
          have hLl : L ≤ 5000 := by
            have h1 := (ncheck_ok hq).1
            have h2 := padn_lt n.data.length
            rw [← hL, length_nbytes]
            omega
          have hd4 : d ≤ 4096 := by rw [← hd]; exact (ncheck_ok hq).1
          have HG := Lib.hid (show resN (nbytes n ++ R) = n ∧ resK (nbytes n ++ R) = L ∧ getCode (nbytes n ++ R) = 0 from ⟨by rw [resN_ok hg.1, hg.2.1], by rw [resK_ok hg.1, hg.2.2, hL], hg.1⟩)
          have HY := Lib.hid (show IsB wr u3 (nbytes n ++ R) from by rw [← hcat]; exact hY.out)
          obtain ⟨sv, rsv, isv⟩ := slice_l_B (P := Try.prog) HY.out 24 5 Try.underlying24 Try.sizeU8 L (by rw [List.length_append]; omega)
          have ISV := Lib.hid (show IsB wr sv (catN (ns.drop (i + 1))) from by rw [← hR]; rw [List.drop_left' hL] at isv; exact isv)
          obtain ⟨x, cd, rfl, hlcd, hcmd⟩ := hdv.at_len hd
          have HDV := Lib.hid (hdv.mono hW.out (Nat.le_refl _))
          have hbl := Lib.hid (show (nbytes n ++ R).length ≤ 1099511627776 from by rw [List.length_append]; omega)
          have q0 := (hW.out.cell (p := ⟨b, off + i * 4, none⟩) (cell_lt k0)).trans k0
          have q1 := (hW.out.cell (p := ⟨b, off + i * 4 + 1, none⟩) (cell_lt k1)).trans k1
          have q2 := (hW.out.cell (p := ⟨b, off + i * 4 + 2, none⟩) (cell_lt k2)).trans k2
          have q3 := (hW.out.cell (p := ⟨b, off + i * 4 + 3, none⟩) (cell_lt k3)).trans k3
          have HD := Lib.hid hd
          clear k0 k1 k2 k3 hdv hd hfit hn hq hdr hcat hg hL hR isv hY
          go_wp2_with fail
          refine (get_any _ (nbytes n ++ R) _ HY.out hbl.out).mono ?_
          rintro e w2 ⟨x2, c2, rfl, hown2, hb2⟩
          rw [HG.out.1, HD.out] at hown2
          rw [HG.out.1, HG.out.2.1, HG.out.2.2, cerr_0, HD.out]
          have r0 := (hb2.cell (p := ⟨b, off + i * 4, none⟩) (cell_lt q0)).trans q0
          have r1 := (hb2.cell (p := ⟨b, off + i * 4 + 1, none⟩) (cell_lt q1)).trans q1
          have r2 := (hb2.cell (p := ⟨b, off + i * 4 + 2, none⟩) (cell_lt q2)).trans q2
          have r3 := (hb2.cell (p := ⟨b, off + i * 4 + 3, none⟩) (cell_lt q3)).trans q3
          have hbox : Below w2.heap.size w2 (w2.alloc (.cells #[.int .u64 (n.key : Int), .int .u32 (n.cookie : Int), .bool n.gone, .slice x2 d c2] 33)) := (Below.refl _ _).alloc (Nat.le_refl _) _
          have hBN := Boxed.new w2 n (.slice x2 d c2) 33
          have K0 : (w2.alloc (.cells #[.int .u64 (n.key : Int), .int .u32 (n.cookie : Int), .bool n.gone, .slice x2 d c2] 33)).cell? ⟨w2.heap.size, 0, none⟩ = some (.int .u64 (n.key : Int)) ∧ (w2.alloc (.cells #[.int .u64 (n.key : Int), .int .u32 (n.cookie : Int), .bool n.gone, .slice x2 d c2] 33)).cell? ⟨w2.heap.size, 1, none⟩ = some (.int .u32 (n.cookie : Int)) ∧ (w2.alloc (.cells #[.int .u64 (n.key : Int), .int .u32 (n.cookie : Int), .bool n.gone, .slice x2 d c2] 33)).cell? ⟨w2.heap.size, 2, none⟩ = some (.bool n.gone) ∧ (w2.alloc (.cells #[.int .u64 (n.key : Int), .int .u32 (n.cookie : Int), .bool n.gone, .slice x2 d c2] 33)).cell? ⟨w2.heap.size, 3, none⟩ = some (.slice x2 d c2) ∧ (w2.alloc (.cells #[.int .u64 (n.key : Int), .int .u32 (n.cookie : Int), .bool n.gone, .slice x2 d c2] 33)).cell? ⟨b, off + i * 4, none⟩ = some (.int .u64 (n.key : Int)) ∧ (w2.alloc (.cells #[.int .u64 (n.key : Int), .int .u32 (n.cookie : Int), .bool n.gone, .slice x2 d c2] 33)).cell? ⟨b, off + i * 4 + 1, none⟩ = some (.int .u32 (n.cookie : Int)) ∧ (w2.alloc (.cells #[.int .u64 (n.key : Int), .int .u32 (n.cookie : Int), .bool n.gone, .slice x2 d c2] 33)).cell? ⟨b, off + i * 4 + 2, none⟩ = some (.bool n.gone) ∧ (w2.alloc (.cells #[.int .u64 (n.key : Int), .int .u32 (n.cookie : Int), .bool n.gone, .slice x2 d c2] 33)).cell? ⟨b, off + i * 4 + 3, none⟩ = some (.slice x d cd) := ⟨hBN.1, hBN.2.1, hBN.2.2.1, hBN.2.2.2, (hbox.cell (p := ⟨b, off + i * 4, none⟩) (cell_lt r0)).trans r0, (hbox.cell (p := ⟨b, off + i * 4 + 1, none⟩) (cell_lt r1)).trans r1, (hbox.cell (p := ⟨b, off + i * 4 + 2, none⟩) (cell_lt r2)).trans r2, (hbox.cell (p := ⟨b, off + i * 4 + 3, none⟩) (cell_lt r3)).trans r3⟩
          have hs2 := hb2.size
          have HW2 := Lib.hid ((hW.out.trans (hb2.mono hW.out.size)).trans (hbox.mono (Nat.le_trans hW.out.size hb2.size)))
          have hbs2 : Below wr.heap.size wr (w2.alloc (.cells #[.int .u64 (n.key : Int), .int .u32 (n.cookie : Int), .bool n.gone, .slice x2 d c2] 33)) := hb2.trans (hbox.mono hb2.size)
          have HB2 := Lib.hid hbs2
          have HA := Lib.hid (show IsB (w2.alloc (.cells #[.int .u64 (n.key : Int), .int .u32 (n.cookie : Int), .bool n.gone, .slice x2 d c2] 33)).drew (.slice x2 d c2) n.data from (IsB.own hown2 HD.out.symm).mono hbox.drew (Nat.le_refl _))
          have HBd := Lib.hid (show IsB (w2.alloc (.cells #[.int .u64 (n.key : Int), .int .u32 (n.cookie : Int), .bool n.gone, .slice x2 d c2] 33)).drew (.slice x d cd) n.data from HDV.out.mono hbs2.drew (Nat.le_refl _))
          clear q0 q1 q2 q3 r0 r1 r2 r3 hbox hBN hown2 hb2 hbs2
          have HK0 := Lib.hid K0
          clear K0
          go_upto_region 19 with fail
          go_cut [88] from 77 to 88 (fun q wx => q = .bool false ∧ Below (w2.alloc (.cells #[.int .u64 (n.key : Int), .int .u32 (n.cookie : Int), .bool n.gone, .slice x2 d c2] 33)).heap.size (w2.alloc (.cells #[.int .u64 (n.key : Int), .int .u32 (n.cookie : Int), .bool n.gone, .slice x2 d c2] 33)) wx)
          case first =>
            have K0 := HK0.out
            have K1 : (w2.alloc (.cells #[.int .u64 (n.key : Int), .int .u32 (n.cookie : Int), .bool n.gone, .slice x2 d c2] 33)).drew.cell? ⟨w2.heap.size, 0, none⟩ = some (.int .u64 (n.key : Int)) ∧ (w2.alloc (.cells #[.int .u64 (n.key : Int), .int .u32 (n.cookie : Int), .bool n.gone, .slice x2 d c2] 33)).drew.cell? ⟨w2.heap.size, 1, none⟩ = some (.int .u32 (n.cookie : Int)) ∧ (w2.alloc (.cells #[.int .u64 (n.key : Int), .int .u32 (n.cookie : Int), .bool n.gone, .slice x2 d c2] 33)).drew.cell? ⟨w2.heap.size, 2, none⟩ = some (.bool n.gone) ∧ (w2.alloc (.cells #[.int .u64 (n.key : Int), .int .u32 (n.cookie : Int), .bool n.gone, .slice x2 d c2] 33)).drew.cell? ⟨w2.heap.size, 3, none⟩ = some (.slice x2 d c2) ∧ (w2.alloc (.cells #[.int .u64 (n.key : Int), .int .u32 (n.cookie : Int), .bool n.gone, .slice x2 d c2] 33)).drew.cell? ⟨b, off + i * 4, none⟩ = some (.int .u64 (n.key : Int)) ∧ (w2.alloc (.cells #[.int .u64 (n.key : Int), .int .u32 (n.cookie : Int), .bool n.gone, .slice x2 d c2] 33)).drew.cell? ⟨b, off + i * 4 + 1, none⟩ = some (.int .u32 (n.cookie : Int)) ∧ (w2.alloc (.cells #[.int .u64 (n.key : Int), .int .u32 (n.cookie : Int), .bool n.gone, .slice x2 d c2] 33)).drew.cell? ⟨b, off + i * 4 + 2, none⟩ = some (.bool n.gone) ∧ (w2.alloc (.cells #[.int .u64 (n.key : Int), .int .u32 (n.cookie : Int), .bool n.gone, .slice x2 d c2] 33)).drew.cell? ⟨b, off + i * 4 + 3, none⟩ = some (.slice x d cd) := K0
            go_wp2_with fail
            go_region_held3 (fun wx => wx.cell? ⟨w2.heap.size, 0, none⟩ = some (.int .u64 (n.key : Int)) ∧ wx.cell? ⟨w2.heap.size, 1, none⟩ = some (.int .u32 (n.cookie : Int)) ∧ wx.cell? ⟨w2.heap.size, 2, none⟩ = some (.bool n.gone) ∧ wx.cell? ⟨w2.heap.size, 3, none⟩ = some (.slice x2 d c2) ∧ wx.cell? ⟨b, off + i * 4, none⟩ = some (.int .u64 (n.key : Int)) ∧ wx.cell? ⟨b, off + i * 4 + 1, none⟩ = some (.int .u32 (n.cookie : Int)) ∧ wx.cell? ⟨b, off + i * 4 + 2, none⟩ = some (.bool n.gone) ∧ wx.cell? ⟨b, off + i * 4 + 3, none⟩ = some (.slice x d cd)) (first | exact K1 | exact K0 | exact Ka) (first
              | (go_at_call 11; with_reducible refine (code_nil _).mono ?_; rintro e w' ⟨rfl, rfl⟩)
              | (go_at_call 17; with_reducible refine (nsame_any n n (.slice x2 d c2) (.slice x d cd) _ HA.out HBd.out).mono ?_; rintro e wa ⟨rfl, hba⟩; rw [sameN_self]; have Ka := keep8l hba K1))
            all_goals (go_wp2_with fail; go_meet)
            all_goals exact ⟨rfl, ((Below.refl _ _).drew).trans hba⟩
          case rest =>
          obtain ⟨rfl, hbc⟩ := hcut
          have HW3 := Lib.hid (HW2.out.trans (hbc.mono HW2.out.size))
          have HI3 := Lib.hid (ISV.out.mono (HB2.out.trans (hbc.mono HB2.out.size)) (Nat.le_refl _))
          clear hbc
          go_wp2
          go_roundw
          case rel => exact ⟨i + 1, by omega, by go_num, HI3, HW3⟩
          case measure => simp [intOf]; omega
        · obtain rfl : i = N := by omega
          have hE := hY.out
          rw [List.drop_of_length_le (by rw [HN.out]; exact Nat.le_refl _)] at hE
          obtain ⟨x, c, rfl, _, _⟩ := hE.at_len (n := 0) rfl
          go_wp2
          go_ret
          exact ⟨rfl, hW.out⟩

theorem needleRow_zero (a : Option Addr) (cap : Nat) (w : World) :
    Calls Try.prog 6 #[.slice a 0 cap] w fun e w' => e = .returned (.bool true) ∧ Below w.heap.size w w' := by
  go_enter Try.func6, Try.ntmps6
  go_wp2_with fail
  refine (alive3_any _).mono ?_
  rintro e w1 ⟨rfl, hb1⟩
  have HW1 := Lib.hid hb1
  clear hb1
  go_wp2_with fail
  refine wp_loop_rounds 1 ?_
  rw [rounds_succ]
  go_wp2_with fail
  refine wp_loop_rounds 1 ?_
  rw [rounds_succ]
  go_wp2_with fail
  go_ret
  exact ⟨rfl, HW1.out⟩

theorem needleRow_long (a : Option Addr) (len cap : Nat) (w : World) (h : 20 < len) (hlc : len ≤ cap) (hcm : cap ≤ maxLen) :
    Calls Try.prog 6 #[.slice a len cap] w fun e w' => e = .returned (.bool true) ∧ Below w.heap.size w w' := by
  unfold maxLen at hcm
  go_enter Try.func6, Try.ntmps6
  go_wp2_with fail
  refine (alive3_any _).mono ?_
  rintro e w1 ⟨rfl, hb1⟩
  go_wp2
  go_ret
  exact ⟨rfl, hb1⟩

theorem needleRow_all (a : Option Addr) (len cap : Nat) (w : World) (h : len = 0 ∨ ∃ ns : List Ndl, ns.length = len ∧ IsR w (.slice a len cap) ns) :
    Calls Try.prog 6 #[.slice a len cap] w fun e w' => e = .returned (.bool true) ∧ Below w.heap.size w w' := by
  rcases h with rfl | ⟨ns, hl, hR⟩
  · exact needleRow_zero a cap w
  by_cases h20 : len ≤ 20
  · exact needleRow_any _ ns w hR (by omega)
  · obtain ⟨b, off, c, e, h1, h2, _⟩ := hR
    cases e
    exact needleRow_long _ _ _ w (by omega) (by omega) h2

end Go.Proofs.Yteibolajnjdpmaa
