/- Package check by contracts: Get behind the sum. -/
import Derived.Test.YtengfglopagdmaaCgetb
import Derived.Deep.CutRange
namespace Go.Proofs.Ytengfglopagdmaa
open Go.RowKit Go.Cor

theorem thaw_below {w w' : World} {B g : Nat} (h : ∀ o, w.frozen? ⟨g, o, none⟩ = false) (hb : Below B w w') (hg : g < B) : ∀ o, w'.frozen? ⟨g, o, none⟩ = false := fun o =>
  (World.frozen?_of_block (a := ⟨g, o, none⟩) (hb.block g hg)).trans (h o)

theorem cell_set1 {w : World} {g k b o : Nat} {u v : Value} (hb : b ≠ g) (h : w.cell? ⟨b, o, none⟩ = some v) : (w.setCell ⟨g, k, none⟩ u).cell? ⟨b, o, none⟩ = some v := by
  rw [World.cell?_of_block (w := w) (heap_setCell_other w ⟨g, k, none⟩ b u (by exact hb))]
  exact h
theorem IsP.set_other {w : World} {x : Option Addr} {n cap k o : Nat} {u : Value} {ps : List Pos} (h : IsP w (.slice x n cap) ps) (hx : ∀ b off, x = some ⟨b, off, none⟩ → b ≠ k) : IsP (w.setCell ⟨k, o, none⟩ u) (.slice x n cap) ps := by
  obtain ⟨a, c, e, h1, h2, h3⟩ := h
  cases e
  refine ⟨_, _, rfl, h1, h2, ?_⟩
  rcases h3 with h3 | ⟨b, off, rfl, hc⟩
  · exact .inl h3
  · refine .inr ⟨b, off, rfl, fun i hi => ?_⟩
    have hne := hx b off rfl
    obtain ⟨k0, k1, k2, k3, k4⟩ := hc i hi
    exact ⟨cell_set1 hne k0, cell_set1 hne k1, cell_set1 hne k2, cell_set1 hne k3, cell_set1 hne k4⟩

theorem cat_lit (v : Value) (l : List UInt8) (w : World) (hv : IsB w v l) (hl : l.length ≤ 1099511627776) (h : 24 ≤ l.length) :
    (Calls Try.prog 28 #[v, .int .i64 0, .int .i64 8] w fun e w' => e = .returned (.int .u64 (fld l 0 8 : Nat)) ∧ w = w') ∧
    (Calls Try.prog 28 #[v, .int .i64 8, .int .i64 4] w fun e w' => e = .returned (.int .u64 (fld l 8 4 : Nat)) ∧ w = w') ∧
    (Calls Try.prog 28 #[v, .int .i64 12, .int .i64 4] w fun e w' => e = .returned (.int .u64 (fld l 12 4 : Nat)) ∧ w = w') ∧
    (Calls Try.prog 28 #[v, .int .i64 16, .int .i64 4] w fun e w' => e = .returned (.int .u64 (fld l 16 4 : Nat)) ∧ w = w') :=
  ⟨at_anyC v l 0 8 w (.inr (.inr (.inr rfl))) hv hl (by omega), at_anyC v l 8 4 w (.inr (.inr (.inl rfl))) hv hl (by omega), at_anyC v l 12 4 w (.inr (.inr (.inl rfl))) hv hl (by omega), at_anyC v l 16 4 w (.inr (.inr (.inl rfl))) hv hl (by omega)⟩

theorem got_row {w1 wr : World} {base g N i kk cc : Nat} {oo ll : Int} {gb : Bool} {a b d : Int} {l : List UInt8} {T : TypeId}
    (HC : BoxC wr (g + 1) a b d (.slice (some ⟨g, 0, none⟩) N N)) (HO : wr.ownsRow base T 5 (.slice (some ⟨g, 0, none⟩) N N) N (pcs (sofar l N i))) (HB : Below g w1 wr) (hi : i < N) (hp : rowP l i = ⟨kk, oo, ll, cc, gb⟩) :
    BoxC (((((wr.drew.setCell ⟨g, i * 5, none⟩ (.int .u64 (kk : Int))).setCell ⟨g, i * 5 + 1, none⟩ (.int .i64 oo)).setCell ⟨g, i * 5 + 2, none⟩ (.int .i64 ll)).setCell ⟨g, i * 5 + 3, none⟩ (.int .u32 (cc : Int))).setCell ⟨g, i * 5 + 4, none⟩ (.bool gb)) (g + 1) a b d (.slice (some ⟨g, 0, none⟩) N N) ∧
    (((((wr.drew.setCell ⟨g, i * 5, none⟩ (.int .u64 (kk : Int))).setCell ⟨g, i * 5 + 1, none⟩ (.int .i64 oo)).setCell ⟨g, i * 5 + 2, none⟩ (.int .i64 ll)).setCell ⟨g, i * 5 + 3, none⟩ (.int .u32 (cc : Int))).setCell ⟨g, i * 5 + 4, none⟩ (.bool gb)).ownsRow base T 5 (.slice (some ⟨g, 0, none⟩) N N) N (pcs (sofar l N (i + 1))) ∧
    Below g w1 (((((wr.drew.setCell ⟨g, i * 5, none⟩ (.int .u64 (kk : Int))).setCell ⟨g, i * 5 + 1, none⟩ (.int .i64 oo)).setCell ⟨g, i * 5 + 2, none⟩ (.int .i64 ll)).setCell ⟨g, i * 5 + 3, none⟩ (.int .u32 (cc : Int))).setCell ⟨g, i * 5 + 4, none⟩ (.bool gb)) := by
  have HC' : BoxC wr.drew (g + 1) a b d (.slice (some ⟨g, 0, none⟩) N N) := HC
  have HO' : wr.drew.ownsRow base T 5 (.slice (some ⟨g, 0, none⟩) N N) N (pcs (sofar l N i)) := HO
  refine ⟨boxC_set5 (by omega) HC', ?_, row_below HB.drew (Nat.le_refl _)⟩
  have := row_set HO' i (rowP l i) (by rw [length_sofar l (Nat.le_of_lt hi)]; exact hi)
  rw [sofar_step l hi, hp] at this
  exact this

set_option maxRecDepth 100000 in
set_option maxHeartbeats 4000000 in
theorem cget_rest (v : Value) (l : List UInt8) (w : World) (hv : IsB w v l) (hl : l.length ≤ 1099511627776) (h : sizedK l = 0) (hs : sumOk l) :
    Calls Try.prog 13 #[v] w fun e w' =>
      ∃ x cap, e = .returned (.tuple #[cval (resC l) (.slice x (resC l).l.length cap), cerr (getK l)]) ∧ IsP w' (.slice x (resC l).l.length cap) (resC l).l ∧ Below w.heap.size w w' := by
  obtain ⟨i0, hi, hz0, hz1, hz2⟩ := info_parts Try.infoPos
  have HV := Lib.hid (hv.mono (cworld_below w) (Nat.le_refl _))
  obtain ⟨h24, _, hn4, hlen⟩ := sizedK_ok h
  obtain ⟨N, hN⟩ : ∃ N : Nat, N = cnt l := ⟨_, rfl⟩
  rw [← hN] at hn4 hlen
  obtain ⟨a, ha⟩ : ∃ a : Nat, a = fld l 4 4 := ⟨_, rfl⟩
  obtain ⟨b, hb⟩ : ∃ b : Nat, b = fld l 8 4 := ⟨_, rfl⟩
  obtain ⟨d, hd⟩ : ∃ d : Nat, d = fld l 12 4 := ⟨_, rfl⟩
  have ha4 : a < 4294967296 := by rw [ha]; exact fld4_lt l 4
  have hb4 : b < 4294967296 := by rw [hb]; exact fld4_lt l 8
  have hd4 : d < 4294967296 := by rw [hd]; exact fld4_lt l 12
  have HQ := Lib.hid h
  have HS := Lib.hid hs
  have HL := Lib.hid hlen
  have hj : l.length - 4 = 20 + 24 * N := by omega
  have HJ := Lib.hid hj
  have HA := Lib.hid (show fld (l.take (20 + 24 * N)) 4 4 = a from by rw [fld_take l (by omega), ha])
  have HB := Lib.hid (show fld (l.take (20 + 24 * N)) 8 4 = b from by rw [fld_take l (by omega), hb])
  have HD := Lib.hid (show fld (l.take (20 + 24 * N)) 12 4 = d from by rw [fld_take l (by omega), hd])
  have HN := Lib.hid (show fld (l.take (20 + 24 * N)) 16 4 = N from by rw [fld_take l (by omega), hN]; rfl)
  have HTL := Lib.hid (show (l.take (20 + 24 * N)).length = 20 + 24 * N from by rw [List.length_take]; omega)
  have HFK := Lib.hid (show ∀ k n, k + n ≤ 20 + 24 * N → fld (l.take (20 + 24 * N)) k n = fld l k n from fun k n hk => fld_take l hk)
  have HGC := Lib.hid (show getC l = ⟨(a : Int), (b : Int), (d : Int), rowsP l N⟩ from by rw [ha, hb, hd, hN]; rfl)
  have HCN := Lib.hid (show cnt l = N from hN.symm)
  obtain ⟨l', hl'⟩ : ∃ l', l' = l.take (20 + 24 * N) := ⟨_, rfl⟩
  have hmk : ∀ wx : World, (Instr.makeSlice 32 (.int .u64 (N : Int)) (.int .u64 (N : Int))).run Try.prog wx = .ok (.slice (some ⟨wx.heap.size, 0, none⟩) N N) (wx.alloc (.cells (madeCells (Value.cells (.agg #[.int .u64 0, .int .i64 0, .int .i64 0, .int .u32 0, .bool false])) (N * 5)) 53)) := fun wx => by
    have := run_make (P := Try.prog) wx 32 53 i0 _ Try.underlying32 hi hz0 .u64 .u64 (N : Int) (N : Int) (by omega) (by omega) (by rw [hz2]; omega) (by omega)
    rw [this, hz1]
    simp
  clear hv h hs hlen hj ha hb hd hN
  go_enter Try.func13, Try.ntmps13
  go_wp2_with fail
  refine (csized_any _ l _ HV.out hl).mono ?_
  rintro e w' ⟨rfl, rfl⟩
  rw [HQ.out, cerr_0]
  go_wp2_with fail
  refine (open_ok _ l _ HV.out hl (by omega) HS.out).mono ?_
  rintro e w1 ⟨v1, rfl, hown1, hb1⟩
  rw [HJ.out, ← hl'] at hown1
  rw [← hl'] at HA HB HD HN HTL HFK
  have HI1 := Lib.hid (IsB.own hown1 HTL.out.symm)
  have hs1 : w.heap.size + 1 ≤ w1.heap.size := Nat.le_trans (by simp) hb1.size
  have HX1 := Lib.hid ((BoxC.new w 0 0 0 (.slice none 0 0) 34).mono hb1 (by simp))
  have HZ1 := Lib.hid (thaw_below (g := w.heap.size) (fun o => by go_simp) hb1 (by simp))
  have HB1 := Lib.hid ((cworld_below w).trans (hb1.mono (by simp)) : Below w.heap.size w w1)
  clear hown1 hb1 HV hl'
  go_wp2_with fail
  refine (at_anyC _ l' 4 4 _ (.inr (.inr (.inl rfl))) HI1.out (by rw [HTL.out]; omega) (by rw [HTL.out]; omega)).mono ?_
  rintro e w' ⟨rfl, rfl⟩
  rw [HA.out]
  go_wp2_with fail
  refine (at_anyC _ l' 8 4 _ (.inr (.inr (.inl rfl))) HI1.out (by rw [HTL.out]; omega) (by rw [HTL.out]; omega)).mono ?_
  rintro e w' ⟨rfl, rfl⟩
  rw [HB.out]
  go_wp2_with fail
  refine (at_anyC _ l' 12 4 _ (.inr (.inr (.inl rfl))) HI1.out (by rw [HTL.out]; omega) (by rw [HTL.out]; omega)).mono ?_
  rintro e w' ⟨rfl, rfl⟩
  rw [HD.out]
  go_wp2_with fail
  refine (at_anyC _ l' 16 4 _ (.inr (.inr (.inl rfl))) HI1.out (by rw [HTL.out]; omega) (by rw [HTL.out]; omega)).mono ?_
  rintro e w' ⟨rfl, rfl⟩
  rw [HN.out]
  go_upto_region 8 with fail
  have hba : Below w1.heap.size w1 (w1.alloc (.cells (madeCells #[.int .u64 0, .int .i64 0, .int .i64 0, .int .u32 0, .bool false] (N * 5)) 53)) := (Below.refl _ _).alloc (Nat.le_refl _) _
  have hO2 : (w1.alloc (.cells (madeCells #[.int .u64 0, .int .i64 0, .int .i64 0, .int .u32 0, .bool false] (N * 5)) 53)).ownsRow (w.heap.size + 1) 53 5 (.slice (some ⟨w1.heap.size, 0, none⟩) N N) N (pcs (sofar l N 0)) := by
    have := World.ownsRow_lit (base := w.heap.size + 1) (e := 53) (size := 5) w1 (madeCells #[.int .u64 0, .int .i64 0, .int .i64 0, .int .u32 0, .bool false] (N * 5)) N hs1 (by unfold maxLen; omega) (by simp [size_madeCells])
    rw [sofar_zero, ← madeP]
    exact this
  obtain ⟨w2, hw2⟩ : ∃ w2, w2 = w1.alloc (.cells (madeCells #[.int .u64 0, .int .i64 0, .int .i64 0, .int .u32 0, .bool false] (N * 5)) 53) := ⟨_, rfl⟩
  have hz2' : w2.heap.size = w1.heap.size + 1 := by rw [hw2]; simp
  rw [← hw2] at hba hO2 ⊢
  have HC3 := Lib.hid (BoxC.new w2 (a : Int) (b : Int) (d : Int) (.slice (some ⟨w1.heap.size, 0, none⟩) N N) 34)
  rw [hz2'] at HC3
  have HO3 := Lib.hid (hO2.alloc (.cells #[.int .i64 (a : Int), .int .i64 (b : Int), .int .i64 (d : Int), .slice (some ⟨w1.heap.size, 0, none⟩) N N] 34))
  have HB3 := Lib.hid (hba.alloc (by omega) (.cells #[.int .i64 (a : Int), .int .i64 (b : Int), .int .i64 (d : Int), .slice (some ⟨w1.heap.size, 0, none⟩) N N] 34))
  have hs3 : w1.heap.size + 1 < (w2.alloc (.cells #[.int .i64 (a : Int), .int .i64 (b : Int), .int .i64 (d : Int), .slice (some ⟨w1.heap.size, 0, none⟩) N N] 34)).heap.size := by simp [hz2']
  clear hw2 hz2' hba hO2 hmk
  obtain ⟨w3, hw3⟩ : ∃ w3, w3 = w2.alloc (.cells #[.int .i64 (a : Int), .int .i64 (b : Int), .int .i64 (d : Int), .slice (some ⟨w1.heap.size, 0, none⟩) N N] 34) := ⟨_, rfl⟩
  rw [← hw3] at HC3 HO3 HB3 hs3 ⊢
  clear hw3
  obtain ⟨g, hg⟩ : ∃ g, g = w1.heap.size := ⟨_, rfl⟩
  rw [← hg] at HC3 HO3 HB3 hs3 hs1 ⊢
  have HG := Lib.hid hg
  clear hg
  obtain ⟨q0, q1, q2, q3⟩ := HC3.out
  go_wp2_with fail
  clear q0 q1 q2 q3
  go_loopw [41] (fun k wr => ∃ i : Nat, i ≤ N ∧ k = .int .i64 i ∧ Hid (BoxC wr (g + 1) (a : Int) (b : Int) (d : Int) (.slice (some ⟨g, 0, none⟩) N N)) ∧ Hid (wr.ownsRow (w.heap.size + 1) 53 5 (.slice (some ⟨g, 0, none⟩) N N) N (pcs (sofar l N i))) ∧ Hid (Below g w1 wr) ∧ Hid (∀ j, j < i → rowG l j ≤ 1)) (fun k _ => N - (intOf k).toNat)
  case atStart => exact ⟨0, by omega, rfl, HC3, HO3, HB3, Lib.hid (fun j hj => by omega)⟩
  case round =>
    clear HC3 HO3 HB3 hs3
    obtain ⟨i, hi, rfl, HC4, HO4, HB4, HR4⟩ := hrel
    have HI4 := Lib.hid (HI1.out.mono HB4.out (by rw [HG.out]; exact Nat.le_refl _))
    by_cases hlt : i < N
    · obtain ⟨sv, rv, iv⟩ := slice_l_B (P := Try.prog) HI4.out 27 5 Try.underlying27 Try.sizeU8 (20 + 24 * i) (by rw [HTL.out]; omega)
      have qv : ∀ W, (Instr.slice 27 v1 (some (.int .i64 (20 + (i : Int) * 24))) none none).run Try.prog W = .ok sv W := fun W => by
        have := rv W
        rwa [show (((20 + 24 * i : Nat) : Nat) : Int) = 20 + (i : Int) * 24 from by omega] at this
      have HSL := Lib.hid (show (l'.drop (20 + 24 * i)).length = 20 + 24 * N - (20 + 24 * i) from by rw [List.length_drop, HTL.out])
      have HSV := Lib.hid iv
      have HF := Lib.hid (show ∀ k n, k + n ≤ 24 → fld (l'.drop (20 + 24 * i)) k n = fld l (20 + 24 * i + k) n from fun k n hk => by rw [fld_drop, HFK.out _ _ (by omega)])
      clear rv iv HI4
      obtain ⟨s', hs'⟩ : ∃ s', s' = l'.drop (20 + 24 * i) := ⟨_, rfl⟩
      rw [← hs'] at HSL HSV HF
      clear hs'
      obtain ⟨gn, hgn⟩ : ∃ gn : Nat, gn = rowG l i := ⟨_, rfl⟩
      have hgn4 : gn < 4294967296 := by rw [hgn]; exact fld4_lt l _
      have HGN := Lib.hid hgn
      clear hgn
      go_wp2_with fail
      refine (at_anyC _ s' 20 4 _ (.inr (.inr (.inl rfl))) HSV.out (by rw [HSL.out]; omega) (by rw [HSL.out]; omega)).mono ?_
      rintro e w' ⟨rfl, rfl⟩
      rw [show fld s' 20 4 = gn from by rw [HF.out 20 4 (by omega), HGN.out]; show fld l _ 4 = fld l _ 4; congr 1; omega]
      by_cases hg1 : 1 < gn
      · have hgb : decide ((1 : Int) < (gn : Int)) = true := decide_eq_true (by omega)
        have HKK := Lib.hid (getK_gone HQ.out HS.out (gAll_no (by rw [HCN.out]; exact hlt) (by rw [← HGN.out]; exact hg1)))
        have HRC := Lib.hid (resC_no (l := l) (by rw [HKK.out]; decide))
        obtain ⟨z0, z1, z2, z3⟩ := HX1.out.mono HB4.out (show w.heap.size < g from hs1)
        have hth := thaw_below HZ1.out HB4.out (show w.heap.size < g from hs1)
        have HBW := Lib.hid (HB1.out.trans (HB4.out.mono (Nat.le_of_succ_le hs1)))
        clear hg1
        go_wp2
        refine bodyPost_ret (v := .tuple #[cval czero (.slice none 0 0), err 4]) (by simp [results, Try.results13, go_sem, z0, z1, z2, z3, czero]) rfl ⟨none, 0, by rw [HRC.out, HKK.out]; rfl, ?_, (((HBW.out.setCell (Nat.le_refl _) _).setCell (Nat.le_refl _) _).setCell (Nat.le_refl _) _).setCell (Nat.le_refl _) _⟩
        rw [HRC.out]
        exact IsP.nil _
      · have hgb : decide ((1 : Int) < (gn : Int)) = false := decide_eq_false (by omega)
        obtain ⟨kk, hkk⟩ : ∃ kk : Nat, kk = fld l (20 + 24 * i) 8 := ⟨_, rfl⟩
        obtain ⟨oo, hoo⟩ : ∃ oo : Nat, oo = fld l (28 + 24 * i) 4 := ⟨_, rfl⟩
        obtain ⟨ll, hll⟩ : ∃ ll : Nat, ll = fld l (32 + 24 * i) 4 := ⟨_, rfl⟩
        obtain ⟨cc, hcc⟩ : ∃ cc : Nat, cc = fld l (36 + 24 * i) 4 := ⟨_, rfl⟩
        have hoo4 : oo < 4294967296 := by rw [hoo]; exact fld4_lt l _
        have hll4 : ll < 4294967296 := by rw [hll]; exact fld4_lt l _
        have hcc4 : cc < 4294967296 := by rw [hcc]; exact fld4_lt l _
        have hwc : IntKind.u32.wrap (cc : Int) = (cc : Int) := IntWalk.u32_in _ (by omega)
        have hwo : IntKind.i64.wrap (oo : Int) = (oo : Int) := by rw [IntKind.wrap_i64]; omega
        have hwl : IntKind.i64.wrap (ll : Int) = (ll : Int) := by rw [IntKind.wrap_i64]; omega
        obtain ⟨gb, hgbb⟩ : ∃ gb : Bool, gb = decide (gn = 1) := ⟨_, rfl⟩
        have hge : ((gn : Int) == 1) = gb := by rw [hgbb, Bool.eq_iff_iff]; simp; omega
        have HP := Lib.hid (show rowP l i = ⟨kk, (oo : Int), (ll : Int), cc, gb⟩ from by rw [hkk, hoo, hll, hcc, hgbb, HGN.out]; rfl)
        have E0 := Lib.hid (show fld s' 0 8 = kk from by rw [HF.out 0 8 (by omega), hkk]; rfl)
        have E8 := Lib.hid (show fld s' 8 4 = oo from by rw [HF.out 8 4 (by omega), hoo]; congr 1; omega)
        have E12 := Lib.hid (show fld s' 12 4 = ll from by rw [HF.out 12 4 (by omega), hll]; congr 1; omega)
        have E16 := Lib.hid (show fld s' 16 4 = cc from by rw [HF.out 16 4 (by omega), hcc]; congr 1; omega)
        have HG1 := Lib.hid (show gn ≤ 1 from by omega)
        clear hkk hoo hll hcc hgbb hg1
        go_upto_region 15 with fail
        have GR := got_row HC4.out HO4.out HB4.out hlt HP.out
        have HC5 := Lib.hid GR.1
        have HO5 := Lib.hid GR.2.1
        have HB5 := Lib.hid GR.2.2
        have HR5 := Lib.hid (show ∀ j, j < i + 1 → rowG l j ≤ 1 from fun j hj => by
          by_cases hji : j < i
          · exact HR4.out j hji
          · obtain rfl : j = i := by omega
            rw [← HGN.out]
            exact HG1.out)
        clear GR
        have hidx := indexAt_G (P := Try.prog) 32 53 Try.underlying32 Try.sizePos g N N i hlt
        have K0 : wr.cell? ⟨g + 1, 3, none⟩ = some (.slice (some ⟨g, 0, none⟩) N N) := HC4.out.2.2.2
        have K1 : wr.drew.cell? ⟨g + 1, 3, none⟩ = some (.slice (some ⟨g, 0, none⟩) N N) := K0
        obtain ⟨p0, p1, p2, p3, p4⟩ := PCells.own HO4.out (i := i) (by rw [length_sofar l (Nat.le_of_lt hlt)]; exact hlt) (length_sofar l (Nat.le_of_lt hlt)).symm
        rw [pat_sofar l hlt] at p0 p1 p2 p3 p4
        have c0 : wr.drew.cell? ⟨g, i * 5, none⟩ = some (.int .u64 0) := p0
        have c1 : wr.drew.cell? ⟨g, i * 5 + 1, none⟩ = some (.int .i64 0) := p1
        have c2 : wr.drew.cell? ⟨g, i * 5 + 2, none⟩ = some (.int .i64 0) := p2
        have c3 : wr.drew.cell? ⟨g, i * 5 + 3, none⟩ = some (.int .u32 0) := p3
        have c4 : wr.drew.cell? ⟨g, i * 5 + 4, none⟩ = some (.bool false) := p4
        have fz : ∀ o, wr.drew.frozen? ⟨g, o, none⟩ = false := HO4.out.frozenAt
        have CL := Lib.hid (cat_lit sv s' wr.drew (HSV.out.mono (((Below.refl wr.heap.size wr)).drew) (Nat.le_refl _)) (by rw [HSL.out]; omega) (by rw [HSL.out]; omega))
        clear p0 p1 p2 p3 p4
        go_wp2_with fail
        refine wp_region_held_drew (S := (fun wx => wx.cell? ⟨g + 1, 3, none⟩ = some (.slice (some ⟨g, 0, none⟩) N N))) (by kernel_rfl) (K1) (fun hHeld => ?_)
        refine wpAnyH_take (i := 0) (v := ?_) rfl (by kernel_rfl) (by kernel_rfl) (by kernel_rfl) (fun _ _ _ h => h) (Or.inl ⟨by rfl, ?_⟩) (by assumption) ?_
        rotate_left 1
        · intro w hSw
          (try dsimp only at hSw)
          go_simp
          all_goals (with_reducible rfl)
        try simp only [Act.put, List.getElem_toArray, List.getElem_cons_zero, List.getElem_cons_succ, List.setIfInBounds_toArray, List.set_cons_zero, List.set_cons_succ]
        refine wpAnyH_take (i := 1) (v := ?_) rfl (by kernel_rfl) (by kernel_rfl) (by kernel_rfl) (fun _ _ _ h => h) (Or.inl ⟨by rfl, ?_⟩) (by assumption) ?_
        rotate_left 1
        · intro w hSw
          (try dsimp only at hSw)
          go_simp
          all_goals (with_reducible rfl)
        try simp only [Act.put, List.getElem_toArray, List.getElem_cons_zero, List.getElem_cons_succ, List.setIfInBounds_toArray, List.set_cons_zero, List.set_cons_succ]
        refine wpAnyH_take (i := 2) (v := ?_) rfl (by kernel_rfl) (by kernel_rfl) (by kernel_rfl) (fun _ _ _ h => h) (Or.inl ⟨by rfl, ?_⟩) (by assumption) ?_
        rotate_left 1
        · intro w hSw
          (try dsimp only at hSw)
          go_simp
          all_goals (with_reducible rfl)
        try simp only [Act.put, List.getElem_toArray, List.getElem_cons_zero, List.getElem_cons_succ, List.setIfInBounds_toArray, List.set_cons_zero, List.set_cons_succ]
        refine wpAnyH_take (i := 3) (v := ?_) rfl (by kernel_rfl) (by kernel_rfl) (by kernel_rfl) (fun _ _ _ h => h) (Or.inl ⟨by rfl, ?_⟩) (by assumption) ?_
        rotate_left 1
        · intro w hSw
          (try dsimp only at hSw)
          go_simp
          all_goals (with_reducible rfl)
        try simp only [Act.put, List.getElem_toArray, List.getElem_cons_zero, List.getElem_cons_succ, List.setIfInBounds_toArray, List.set_cons_zero, List.set_cons_succ]
        refine wpAnyH_take (i := 5) (v := ?_) rfl (by kernel_rfl) (by kernel_rfl) (by kernel_rfl) (fun _ _ _ h => h) (Or.inl ⟨by rfl, ?_⟩) (by assumption) ?_
        rotate_left 1
        · intro w hSw
          (try dsimp only at hSw)
          go_simp
          all_goals (with_reducible rfl)
        try simp only [Act.put, List.getElem_toArray, List.getElem_cons_zero, List.getElem_cons_succ, List.setIfInBounds_toArray, List.set_cons_zero, List.set_cons_succ]
        refine wpAnyH_take (i := 8) (v := ?_) rfl (by kernel_rfl) (by kernel_rfl) (by kernel_rfl) (fun _ _ _ h => h) (Or.inl ⟨by rfl, ?_⟩) (by assumption) ?_
        rotate_left 1
        · intro w hSw
          (try dsimp only at hSw)
          go_simp
          all_goals (with_reducible rfl)
        try simp only [Act.put, List.getElem_toArray, List.getElem_cons_zero, List.getElem_cons_succ, List.setIfInBounds_toArray, List.set_cons_zero, List.set_cons_succ]
        refine wpAnyH_take (i := 11) (v := ?_) rfl (by kernel_rfl) (by kernel_rfl) (by kernel_rfl) (fun _ _ _ h => h) (Or.inl ⟨by rfl, ?_⟩) (by assumption) ?_
        rotate_left 1
        · intro w hSw
          (try dsimp only at hSw)
          go_simp
          all_goals (with_reducible rfl)
        try simp only [Act.put, List.getElem_toArray, List.getElem_cons_zero, List.getElem_cons_succ, List.setIfInBounds_toArray, List.set_cons_zero, List.set_cons_succ]
        refine wpAnyH_take (i := 14) (v := ?_) rfl (by kernel_rfl) (by kernel_rfl) (by kernel_rfl) (fun _ _ _ h => h) (Or.inl ⟨by rfl, ?_⟩) (by assumption) ?_
        rotate_left 1
        · intro w hSw
          (try dsimp only at hSw)
          go_simp
          all_goals (with_reducible rfl)
        try simp only [Act.put, List.getElem_toArray, List.getElem_cons_zero, List.getElem_cons_succ, List.setIfInBounds_toArray, List.set_cons_zero, List.set_cons_succ]
        refine wpAnyH_take (i := 15) (v := ?_) rfl (by kernel_rfl) (by kernel_rfl) (by kernel_rfl) (fun _ _ _ h => h) (Or.inl ⟨by rfl, ?_⟩) (by assumption) ?_
        rotate_left 1
        · intro w hSw
          (try dsimp only at hSw)
          go_simp
          all_goals (with_reducible rfl)
        try simp only [Act.put, List.getElem_toArray, List.getElem_cons_zero, List.getElem_cons_succ, List.setIfInBounds_toArray, List.set_cons_zero, List.set_cons_succ]
        refine wpAnyH_ready (rs := [4]) (by kernel_rfl) (by simp) ?_
        refine AllReadyH.cons rfl (fun K hK => ?_) AllReadyH.nil
        go_simp
        go_at_call 28
        refine CL.out.1.mono ?_
        rintro e w' ⟨rfl, rfl⟩
        rw [E0.out]
        go_wp2_with fail
        refine hK.out _ _ (K1) (fun hHeld => ?_)
        clear hK K
        try simp only [Act.put, List.getElem_toArray, List.getElem_cons_zero, List.getElem_cons_succ, List.setIfInBounds_toArray, List.set_cons_zero, List.set_cons_succ]
        refine wpAnyH_ready (rs := [6]) (by kernel_rfl) (by simp) ?_
        refine AllReadyH.cons rfl (fun K hK => ?_) AllReadyH.nil
        go_simp
        go_at_call 28
        refine CL.out.2.1.mono ?_
        rintro e w' ⟨rfl, rfl⟩
        rw [E8.out]
        go_wp2_with fail
        refine hK.out _ _ (K1) (fun hHeld => ?_)
        clear hK K
        try simp only [Act.put, List.getElem_toArray, List.getElem_cons_zero, List.getElem_cons_succ, List.setIfInBounds_toArray, List.set_cons_zero, List.set_cons_succ]
        refine wpAnyH_take (i := 7) (v := ?_) rfl (by kernel_rfl) (by kernel_rfl) (by kernel_rfl) (fun _ _ _ h => h) (Or.inl ⟨by rfl, ?_⟩) (by assumption) ?_
        rotate_left 1
        · intro w hSw
          (try dsimp only at hSw)
          go_simp
          all_goals (with_reducible rfl)
        try simp only [Act.put, List.getElem_toArray, List.getElem_cons_zero, List.getElem_cons_succ, List.setIfInBounds_toArray, List.set_cons_zero, List.set_cons_succ]
        refine wpAnyH_ready (rs := [9]) (by kernel_rfl) (by simp) ?_
        refine AllReadyH.cons rfl (fun K hK => ?_) AllReadyH.nil
        go_simp
        go_at_call 28
        refine CL.out.2.2.1.mono ?_
        rintro e w' ⟨rfl, rfl⟩
        rw [E12.out]
        go_wp2_with fail
        refine hK.out _ _ (K1) (fun hHeld => ?_)
        clear hK K
        try simp only [Act.put, List.getElem_toArray, List.getElem_cons_zero, List.getElem_cons_succ, List.setIfInBounds_toArray, List.set_cons_zero, List.set_cons_succ]
        refine wpAnyH_take (i := 10) (v := ?_) rfl (by kernel_rfl) (by kernel_rfl) (by kernel_rfl) (fun _ _ _ h => h) (Or.inl ⟨by rfl, ?_⟩) (by assumption) ?_
        rotate_left 1
        · intro w hSw
          (try dsimp only at hSw)
          go_simp
          all_goals (with_reducible rfl)
        try simp only [Act.put, List.getElem_toArray, List.getElem_cons_zero, List.getElem_cons_succ, List.setIfInBounds_toArray, List.set_cons_zero, List.set_cons_succ]
        refine wpAnyH_ready (rs := [12]) (by kernel_rfl) (by simp) ?_
        refine AllReadyH.cons rfl (fun K hK => ?_) AllReadyH.nil
        go_simp
        go_at_call 28
        refine CL.out.2.2.2.mono ?_
        rintro e w' ⟨rfl, rfl⟩
        rw [E16.out]
        go_wp2_with fail
        refine hK.out _ _ (K1) (fun hHeld => ?_)
        clear hK K
        try simp only [Act.put, List.getElem_toArray, List.getElem_cons_zero, List.getElem_cons_succ, List.setIfInBounds_toArray, List.set_cons_zero, List.set_cons_succ]
        refine wpAnyH_take (i := 13) (v := ?_) rfl (by kernel_rfl) (by kernel_rfl) (by kernel_rfl) (fun _ _ _ h => h) (Or.inl ⟨by rfl, ?_⟩) (by assumption) ?_
        rotate_left 1
        · intro w hSw
          (try dsimp only at hSw)
          go_simp
          all_goals (with_reducible rfl)
        try simp only [Act.put, List.getElem_toArray, List.getElem_cons_zero, List.getElem_cons_succ, List.setIfInBounds_toArray, List.set_cons_zero, List.set_cons_succ]
        refine wpAnyH_take (i := 16) (v := ?_) rfl (by kernel_rfl) (by kernel_rfl) (by kernel_rfl) (fun _ _ _ h => h) (Or.inl ⟨by rfl, ?_⟩) (by assumption) ?_
        rotate_left 1
        · intro w hSw
          (try dsimp only at hSw)
          go_simp
          all_goals (with_reducible rfl)
        try simp only [Act.put, List.getElem_toArray, List.getElem_cons_zero, List.getElem_cons_succ, List.setIfInBounds_toArray, List.set_cons_zero, List.set_cons_succ]
        refine wpAnyH_take (i := 17) (v := ?_) rfl (by kernel_rfl) (by kernel_rfl) (by kernel_rfl) (fun _ _ _ h => h) (Or.inl ⟨by rfl, ?_⟩) (by assumption) ?_
        rotate_left 1
        · intro w hSw
          (try dsimp only at hSw)
          go_simp
          all_goals (with_reducible rfl)
        try simp only [Act.put, List.getElem_toArray, List.getElem_cons_zero, List.getElem_cons_succ, List.setIfInBounds_toArray, List.set_cons_zero, List.set_cons_succ]
        refine wpAnyH_ready (rs := [18]) (by kernel_rfl) (by simp) ?_
        refine AllReadyH.cons rfl (fun K hK => ?_) AllReadyH.nil
        rw [if_pos (by rfl)]
        refine wp_store5 53 Try.sizePos (.tmp 72) (.tmp 71) rfl g (i * 5) _ _ _ _ _ (kk : Int) (oo : Int) (ll : Int) (cc : Int) gb rfl rfl c0 c1 c2 c3 c4 fz ?_
        refine hK.out _ _ (cell_set5 (by omega) K1) (fun hHeld => ?_)
        clear hK K
        try simp only [Act.put, List.getElem_toArray, List.getElem_cons_zero, List.getElem_cons_succ, List.setIfInBounds_toArray, List.set_cons_zero, List.set_cons_succ]
        refine wpAnyH_done (by kernel_rfl) ?_ _
        clear c0 c1 c2 c3 c4 fz K0 K1 hidx
        go_wp2_with fail
        go_roundw
        case rel => exact ⟨i + 1, by omega, by go_num, HC5, HO5, HB5, HR5⟩
        case measure => simp [intOf]; omega
    · obtain rfl : N = i := by omega
      rw [sofar_all] at HO4
      have HG0 := Lib.hid (gAll_of (l := l) fun j hj => HR4.out j (by rw [← HCN.out]; exact hj))
      have HPl := Lib.hid (IsP.own HO4.out (length_rowsP l N).symm)
      have HBW := Lib.hid (HB1.out.trans (HB4.out.mono (Nat.le_of_succ_le hs1)))
      have HCR := Lib.hid (show cright ⟨(a : Int), (b : Int), (d : Int), rowsP l N⟩ = cright (getC l) from by rw [HGC.out])
      have hgs : g + 1 < wr.heap.size := cell_lt HC4.out.1
      obtain ⟨q0, q1, q2, q3⟩ := HC4.out
      go_wp2_with fail
      refine (right_any ⟨(a : Int), (b : Int), (d : Int), rowsP l N⟩ _ _ HPl.out).mono ?_
      rintro e w6 ⟨rfl, hb6⟩
      rw [HCR.out]
      clear q0 q1 q2 q3
      have HC6 := Lib.hid (HC4.out.mono hb6 hgs)
      have HB6 := Lib.hid (HBW.out.trans (hb6.mono HBW.out.size))
      have HP6 := Lib.hid (HPl.out.mono hb6 (Nat.le_refl _))
      obtain ⟨z0, z1, z2, z3⟩ := (HX1.out.mono HB4.out (show w.heap.size < g from hs1)).mono hb6 (by omega)
      have hth := thaw_below (thaw_below HZ1.out HB4.out (show w.heap.size < g from hs1)) hb6 (by omega)
      clear hb6
      by_cases hcr : cright (getC l) = 0
      · have HKK := Lib.hid (getK_ok HQ.out HS.out HG0.out hcr)
        have HRC := Lib.hid ((resC_ok HKK.out).trans HGC.out)
        rw [hcr, cerr_0]
        obtain ⟨q0, q1, q2, q3⟩ := HC6.out
        clear hcr
        go_wp2
        have hlr : (rowsP l N).length = N := length_rowsP l N
        refine bodyPost_ret (v := .tuple #[.agg #[.int .i64 (a : Int), .int .i64 (b : Int), .int .i64 (d : Int), .slice (some ⟨g, 0, none⟩) N N], .nilIface]) (by simp [results, Try.results13, go_sem, z0, z1, z2, z3]) rfl ⟨some ⟨g, 0, none⟩, N, ?_, ?_, (((HB6.out.setCell (Nat.le_refl _) _).setCell (Nat.le_refl _) _).setCell (Nat.le_refl _) _).setCell (Nat.le_refl _) _⟩
        · rw [HRC.out, HKK.out, cerr_0]
          show _ = Ending.returned (.tuple #[.agg #[_, _, _, .slice _ (rowsP l N).length N], _])
          rw [hlr]
        · rw [HRC.out]
          show IsP _ (.slice _ (rowsP l N).length N) (rowsP l N)
          rw [hlr]
          have hne : ∀ bb off, (some ⟨g, 0, none⟩ : Option Addr) = some ⟨bb, off, none⟩ → bb ≠ w.heap.size := fun bb off e => by
            simp only [Option.some.injEq, Addr.mk.injEq, and_true] at e
            omega
          exact (((HP6.out.set_other hne).set_other hne).set_other hne).set_other hne
      · have HKK := Lib.hid (getK_right HQ.out HS.out HG0.out hcr)
        have HRC := Lib.hid (resC_no (l := l) (by rw [HKK.out]; decide))
        have HCE := Lib.hid (cerr_pos hcr)
        rw [HCE.out]
        clear hcr
        go_wp2
        refine bodyPost_ret (v := .tuple #[cval czero (.slice none 0 0), err 4]) (by simp [results, Try.results13, go_sem, z0, z1, z2, z3, czero]) rfl ⟨none, 0, by rw [HRC.out, HKK.out]; rfl, ?_, (((HB6.out.setCell (Nat.le_refl _) _).setCell (Nat.le_refl _) _).setCell (Nat.le_refl _) _).setCell (Nat.le_refl _) _⟩
        rw [HRC.out]
        exact IsP.nil _

end Go.Proofs.Ytengfglopagdmaa
