/- The statements of layer 5 (check): positions out of order. -/
import Derived.Test.YtdcdhcjjngjnjaaSame5b
import Derived.Test.YtdcdhcjjngjnjaaRef05
namespace Go.Proofs.Ytdcdhcjjngjnjaa
open Go.RowKit Go.Cor

theorem pat_set_self {ps : List Pos} {i : Nat} (p : Pos) (h : i < ps.length) : pat (ps.set i p) i = p := pat_of (by rw [List.getElem?_set_self h])
theorem pat_set_ne {ps : List Pos} {i j : Nat} (p : Pos) (h : i ≠ j) : pat (ps.set i p) j = pat ps j := by
  unfold pat
  rw [List.getD_eq_getElem?_getD, List.getD_eq_getElem?_getD, List.getElem?_set_ne h]
/-- Where keys don't rise, a checkpoint may not be. -/
theorem cright_keys {a b d : Int} {xs : List Pos} {i : Nat} (hl : xs.length ≤ 4096) (hh : hOk a b d = true) (hi : i + 1 < xs.length) (h : ¬ (pat xs i).key < (pat xs (i + 1)).key) : cright ⟨a, b, d, xs⟩ = 1 := by
  refine cright_list hl (lOk_no hi ?_)
  unfold pOk kOk
  rw [Nat.add_sub_cancel, decide_eq_false (by omega : ¬ (i + 1 = 0 ∨ (pat xs i).key < (pat xs (i + 1)).key)), Bool.and_false]
theorem keys_rise {ps : List Pos} {i : Nat} (h : lOk ps = true) (hi : i + 1 < ps.length) : (pat ps i).key < (pat ps (i + 1)).key := by
  have := lOk_at h hi
  unfold pOk kOk at this
  rw [Bool.and_eq_true] at this
  have h2 := of_decide_eq_true this.2
  rw [Nat.add_sub_cancel] at h2
  omega

theorem Try.sizeU64 : (Try.prog.info? 49).map (·.size) = some 1 := by kernel_rfl
/-- A number stored, as one operation. -/
theorem wp_store1 {P : Program} {w : World} {o : Oper} {a : Act} {K : Act → World → Prop} {Q : Exit → Act → World → Prop} (T : TypeId) (hs : (P.info? T).map (·.size) = some 1) (x y : Operand) (ho : o.op = .store T x y)
    (g k : Nat) (v0 : Value) (kd : IntKind) (z : Int) (hx : a.eval x = .pointer (some ⟨g, k, none⟩)) (hy : a.eval y = .int kd z) (c0 : w.cell? ⟨g, k, none⟩ = some v0) (fz : w.frozen? ⟨g, k, none⟩ = false)
    (h : K (a.put o.dst undef) (w.setCell ⟨g, k, none⟩ (.int kd z))) : o.wp P a w K Q := by
  obtain ⟨j, hj1, hj2⟩ := Option.map_eq_some_iff.1 hs
  have hsz : ∀ W, (sizeOf T).run P W = .ok 1 W := fun W => by simp [sizeOf, typeInfo, hj1, hj2]
  unfold Oper.wp execOp
  rw [ho]
  simp only [hx, hy]
  go_simp
  exact h
theorem pcs_set_key (ps : List Pos) (i k : Nat) (hi : i < ps.length) : (pcs ps).set (i * 5) (.int .u64 (k : Int)) = pcs (ps.set i ⟨k, (pat ps i).off, (pat ps i).len, (pat ps i).cookie, (pat ps i).gone⟩) := by
  induction ps generalizing i with
  | nil => simp at hi
  | cons q r ih =>
    cases i with
    | zero => simp [pcs, pcells]
    | succ i =>
      have h := ih i (by simpa using hi)
      rw [List.set_cons_succ, pcs, pcs]
      show (pcells q ++ pcs r).set ((i + 1) * 5) _ = _
      rw [show (i + 1) * 5 = i * 5 + 5 from by omega, List.set_append, if_neg (by show ¬ i * 5 + 5 < 5; omega)]
      show pcells q ++ (pcs r).set (i * 5 + 5 - 5) _ = _
      rw [Nat.add_sub_cancel, h]
      rfl

set_option maxHeartbeats 1000000 in
theorem checkOrder_long (a b d : Int) (ps : List Pos) (v : Value) (k : Nat) (w : World) (hv : IsP w v ps) (h : 60 < ps.length) :
    Calls Try.prog 6 #[cval ⟨a, b, d, ps⟩ v, .int .u8 (k : Int)] w fun e w' => e = .returned (.bool true) ∧ Below w.heap.size w w' := by
  obtain ⟨N, hN⟩ : ∃ N, ps.length = N := ⟨_, rfl⟩
  obtain ⟨x, cap, rfl, hlc, hcm⟩ := hv.at_len hN
  have hb : decide ((60 : Int) < (N : Int)) = true := decide_eq_true (by omega)
  clear hv hN h
  go_enter Try.func6, Try.ntmps6
  go_wp2_with fail
  refine (alive5_any _).mono ?_
  rintro e w1 ⟨rfl, hb1⟩
  obtain ⟨q0, q1, q2, q3⟩ := (BoxC.new w a b d (.slice x N cap) 24).mono hb1 (by simp)
  have HB1 := Lib.hid ((((Below.refl w.heap.size w).alloc (Nat.le_refl _) _).trans (hb1.mono (by simp))) : Below w.heap.size w w1)
  clear hb1
  go_wp2
  go_ret
  exact ⟨rfl, HB1.out⟩

set_option maxHeartbeats 1000000 in
theorem checkOrder_not (a b d : Int) (ps : List Pos) (v : Value) (k : Nat) (w : World) (hv : IsP w v ps) (h : ps.length ≤ 60) (hq : cright ⟨a, b, d, ps⟩ ≠ 0) :
    Calls Try.prog 6 #[cval ⟨a, b, d, ps⟩ v, .int .u8 (k : Int)] w fun e w' => e = .returned (.bool true) ∧ Below w.heap.size w w' := by
  obtain ⟨N, hN⟩ : ∃ N, ps.length = N := ⟨_, rfl⟩
  have HV := Lib.hid hv
  obtain ⟨x, cap, rfl, hlc, hcm⟩ := hv.at_len hN
  have hb : decide ((60 : Int) < (N : Int)) = false := decide_eq_false (by omega)
  obtain ⟨q, hqq⟩ : ∃ q : Nat, cright ⟨a, b, d, ps⟩ = q := ⟨_, rfl⟩
  rw [hqq] at hq
  have HQ := Lib.hid hqq
  have hqb : ((q : Int) != 0) = true := by rw [bne_iff_ne]; omega
  clear hv hN h hqq hq
  go_enter Try.func6, Try.ntmps6
  go_wp2_with fail
  refine (alive5_any _).mono ?_
  rintro e w1 ⟨rfl, hb1⟩
  obtain ⟨q0, q1, q2, q3⟩ := (BoxC.new w a b d (.slice x N cap) 24).mono hb1 (by simp)
  have HB1 := Lib.hid ((((Below.refl w.heap.size w).alloc (Nat.le_refl _) _).trans (hb1.mono (by simp))) : Below w.heap.size w w1)
  clear hb1
  go_wp2_with fail
  refine (refright_any ⟨a, b, d, ps⟩ _ _ (HV.out.mono HB1.out (Nat.le_refl _))).mono ?_
  rintro e w2 ⟨rfl, hb2⟩
  rw [HQ.out]
  have HB2 := Lib.hid (HB1.out.trans (hb2.mono HB1.out.size))
  clear hb2 q0 q1 q2 q3
  go_wp2
  go_ret
  exact ⟨rfl, HB2.out⟩

set_option maxRecDepth 100000 in
set_option maxHeartbeats 4000000 in
theorem checkOrder_few (a b d : Int) (ps : List Pos) (v : Value) (k : Nat) (w : World) (hv : IsP w v ps) (hf : ∀ p ∈ ps, p.fits) (h : ps.length < 2) (hq : cright ⟨a, b, d, ps⟩ = 0) :
    Calls Try.prog 6 #[cval ⟨a, b, d, ps⟩ v, .int .u8 (k : Int)] w fun e w' => e = .returned (.bool true) ∧ Below w.heap.size w w' := by
  obtain ⟨N, hN⟩ : ∃ N, ps.length = N := ⟨_, rfl⟩
  have HV := Lib.hid hv
  obtain ⟨x, cap, rfl, hlc, hcm⟩ := hv.at_len hN
  rw [hN] at h
  have hb60 : decide ((60 : Int) < (N : Int)) = false := decide_eq_false (by omega)
  have HQ := Lib.hid hq
  have HF := Lib.hid hf
  have HN := Lib.hid hN
  obtain ⟨L, hL⟩ : ∃ L, L = 24 + 24 * N := ⟨_, rfl⟩
  have hL2 : L ≤ 1500 := by omega
  have hLe : ((L : Int) != 24 + 24 * (N : Int)) = false := by rw [bne_eq_false_iff_eq]; omega
  obtain ⟨X, hX⟩ : ∃ X, X = cbytes ⟨a, b, d, ps⟩ := ⟨_, rfl⟩
  have HXL := Lib.hid (show X.length = L from by rw [hX, length_cbytes, hL, ← hN])
  have HXX := Lib.hid hX
  have h2 : decide ((N : Int) < 2) = true := decide_eq_true (by omega)
  clear hv hN hf hq hL hX
  go_enter Try.func6, Try.ntmps6
  go_wp2_with fail
  refine (alive5_any _).mono ?_
  rintro e w1 ⟨rfl, hb1⟩
  have HX1 := Lib.hid ((BoxC.new w a b d (.slice x N cap) 24).mono hb1 (by simp))
  have hs1 : w.heap.size + 1 ≤ w1.heap.size := Nat.le_trans (by simp) hb1.size
  have HB1 := Lib.hid ((((Below.refl w.heap.size w).alloc (Nat.le_refl _) _).trans (hb1.mono (by simp))) : Below w.heap.size w w1)
  clear hb1
  obtain ⟨q0, q1, q2, q3⟩ := HX1.out
  go_wp2_with fail
  refine (refright_any ⟨a, b, d, ps⟩ _ _ (HV.out.mono HB1.out (Nat.le_refl _))).mono ?_
  rintro e w2 ⟨rfl, hb2⟩
  rw [HQ.out]
  have HX2 := Lib.hid (HX1.out.mono hb2 hs1)
  have hs2 : w.heap.size + 1 ≤ w2.heap.size := Nat.le_trans hs1 hb2.size
  have HB2 := Lib.hid (HB1.out.trans (hb2.mono HB1.out.size))
  clear hb2 q0 q1 q2 q3 HX1 HB1 hs1
  obtain ⟨q0, q1, q2, q3⟩ := HX2.out
  go_wp2_with fail
  refine (ofc_any ⟨a, b, d, ps⟩ _ _ (HV.out.mono HB2.out (Nat.le_refl _)) (by show ps.length ≤ _; rw [HN.out]; omega)).mono ?_
  rintro e w3 ⟨x3, c3, rfl, hown3, hb3⟩
  have HP3 := Lib.hid (show IsP w3 (.slice x3 N c3) ps from by have := IsP.own hown3 rfl; rwa [show (Chk.mk a b d ps).l.length = N from HN.out] at this)
  simp only [HN.out]
  have HX3 := Lib.hid (HX2.out.mono hb3 hs2)
  have hs3 : w.heap.size + 1 ≤ w3.heap.size := Nat.le_trans hs2 hb3.size
  have HB3 := Lib.hid (HB2.out.trans (hb3.mono HB2.out.size))
  clear hown3 hb3 q0 q1 q2 q3 HX2 HB2 hs2
  go_wp2_with fail
  refine (put_okC ⟨a, b, d, ps⟩ _ _ HP3.out HF.out HQ.out).mono ?_
  rintro e w4 ⟨g4, c4, rfl, hown4, hb4⟩
  rw [← HXX.out] at hown4 ⊢
  rw [HXL.out] at hown4 ⊢
  have HX4 := Lib.hid (HX3.out.mono hb4 hs3)
  have hs4 : w.heap.size + 1 ≤ w4.heap.size := Nat.le_trans hs3 hb4.size
  have HB4 := Lib.hid (HB3.out.trans (hb4.mono HB3.out.size))
  clear hown4 hb4 HX3 HB3 hs3
  obtain ⟨q0, q1, q2, q3⟩ := HX4.out
  go_wp2_with fail
  refine (code_cerr 0 _ (by decide)).mono ?_
  rintro e w' ⟨rfl, rfl⟩
  go_wp2
  go_ret
  exact ⟨rfl, HB4.out⟩

set_option maxRecDepth 100000 in
set_option maxHeartbeats 4000000 in
theorem checkOrder_any (a b d : Int) (ps : List Pos) (v : Value) (k : Nat) (w : World) (hv : IsP w v ps) (hf : ∀ p ∈ ps, p.fits) (h : ps.length ≤ 60) (h1 : 2 ≤ ps.length) (hq : cright ⟨a, b, d, ps⟩ = 0) (hk : k < 256) :
    Calls Try.prog 6 #[cval ⟨a, b, d, ps⟩ v, .int .u8 (k : Int)] w fun e w' => e = .returned (.bool true) ∧ Below w.heap.size w w' := by
  obtain ⟨N, hN⟩ : ∃ N, ps.length = N := ⟨_, rfl⟩
  have HV := Lib.hid hv
  obtain ⟨x, cap, rfl, hlc, hcm⟩ := hv.at_len hN
  rw [hN] at h
  have hb60 : decide ((60 : Int) < (N : Int)) = false := decide_eq_false (by omega)
  have HQ := Lib.hid hq
  have HF := Lib.hid hf
  have HN := Lib.hid hN
  obtain ⟨L, hL⟩ : ∃ L, L = 24 + 24 * N := ⟨_, rfl⟩
  have hL2 : L ≤ 1500 := by omega
  have hLe : ((L : Int) != 24 + 24 * (N : Int)) = false := by rw [bne_eq_false_iff_eq]; omega
  obtain ⟨X, hX⟩ : ∃ X, X = cbytes ⟨a, b, d, ps⟩ := ⟨_, rfl⟩
  have HXL := Lib.hid (show X.length = L from by rw [hX, length_cbytes, hL, ← hN])
  have HXX := Lib.hid hX
  rw [hN] at h1
  have h2 : decide ((N : Int) < 2) = false := decide_eq_false (by omega)
  obtain ⟨M, hM⟩ : ∃ M, N = M + 1 := ⟨N - 1, by omega⟩
  have hM1 : (N : Int) - 1 = (M : Int) := by omega
  have hM0 : 0 < M := by omega
  obtain ⟨i, hi⟩ : ∃ i : Nat, i = k % M := ⟨_, rfl⟩
  have hiM : i < M := by rw [hi]; exact Nat.mod_lt _ hM0
  have hii : (k : Int) % (M : Int) = (i : Int) := by rw [hi]; simp
  obtain ⟨_, hh, hlo⟩ := cright_ok hq
  have hrise := keys_rise (show lOk ps = true from hlo) (i := i) (by omega)
  obtain ⟨p, hp⟩ : ∃ p, pat ps i = p := ⟨_, rfl⟩
  obtain ⟨q, hqq⟩ : ∃ q, pat ps (i + 1) = q := ⟨_, rfl⟩
  rw [hp, hqq] at hrise
  obtain ⟨xs, hxs⟩ : ∃ xs, xs = (ps.set i q).set (i + 1) p := ⟨_, rfl⟩
  obtain ⟨ys, hys⟩ : ∃ ys, ys = ps.set (i + 1) ⟨p.key, q.off, q.len, q.cookie, q.gone⟩ := ⟨_, rfl⟩
  have HXR := Lib.hid (show cright ⟨a, b, d, xs⟩ = 1 from by
    refine cright_keys (i := i) (by rw [hxs]; simp; omega) hh (by rw [hxs]; simp; omega) ?_
    rw [hxs, pat_set_ne _ (by omega), pat_set_self _ (by omega), pat_set_self _ (by simp; omega)]
    omega)
  have HYR := Lib.hid (show cright ⟨a, b, d, ys⟩ = 1 from by
    refine cright_keys (i := i) (by rw [hys]; simp; omega) hh (by rw [hys]; simp; omega) ?_
    rw [hys, pat_set_ne _ (by omega), pat_set_self _ (by omega), hp]
    show ¬ p.key < p.key
    omega)
  have hi1 : i + 1 < N := by omega
  have HXS := Lib.hid hxs
  have HYS := Lib.hid hys
  have HP := Lib.hid hp
  have HQQ := Lib.hid hqq
  clear hv hN hf hq hL hX hi hh hlo hrise hp hqq hxs hys hM
  go_enter Try.func6, Try.ntmps6
  go_wp2_with fail
  refine (alive5_any _).mono ?_
  rintro e w1 ⟨rfl, hb1⟩
  have HX1 := Lib.hid ((BoxC.new w a b d (.slice x N cap) 24).mono hb1 (by simp))
  have hs1 : w.heap.size + 1 ≤ w1.heap.size := Nat.le_trans (by simp) hb1.size
  have HB1 := Lib.hid ((((Below.refl w.heap.size w).alloc (Nat.le_refl _) _).trans (hb1.mono (by simp))) : Below w.heap.size w w1)
  clear hb1
  obtain ⟨q0, q1, q2, q3⟩ := HX1.out
  go_wp2_with fail
  refine (refright_any ⟨a, b, d, ps⟩ _ _ (HV.out.mono HB1.out (Nat.le_refl _))).mono ?_
  rintro e w2 ⟨rfl, hb2⟩
  rw [HQ.out]
  have HX2 := Lib.hid (HX1.out.mono hb2 hs1)
  have hs2 : w.heap.size + 1 ≤ w2.heap.size := Nat.le_trans hs1 hb2.size
  have HB2 := Lib.hid (HB1.out.trans (hb2.mono HB1.out.size))
  clear hb2 q0 q1 q2 q3 HX1 HB1 hs1
  obtain ⟨q0, q1, q2, q3⟩ := HX2.out
  go_wp2_with fail
  refine (ofc_any ⟨a, b, d, ps⟩ _ _ (HV.out.mono HB2.out (Nat.le_refl _)) (by show ps.length ≤ _; rw [HN.out]; omega)).mono ?_
  rintro e w3 ⟨x3, c3, rfl, hown3, hb3⟩
  have HP3 := Lib.hid (show IsP w3 (.slice x3 N c3) ps from by have := IsP.own hown3 rfl; rwa [show (Chk.mk a b d ps).l.length = N from HN.out] at this)
  simp only [HN.out]
  have HX3 := Lib.hid (HX2.out.mono hb3 hs2)
  have hs3 : w.heap.size + 1 ≤ w3.heap.size := Nat.le_trans hs2 hb3.size
  have HB3 := Lib.hid (HB2.out.trans (hb3.mono HB2.out.size))
  clear hown3 hb3 q0 q1 q2 q3 HX2 HB2 hs2
  go_wp2_with fail
  refine (put_okC ⟨a, b, d, ps⟩ _ _ HP3.out HF.out HQ.out).mono ?_
  rintro e w4 ⟨g4, c4, rfl, hown4, hb4⟩
  rw [← HXX.out] at hown4 ⊢
  rw [HXL.out] at hown4 ⊢
  have HX4 := Lib.hid (HX3.out.mono hb4 hs3)
  have hs4 : w.heap.size + 1 ≤ w4.heap.size := Nat.le_trans hs3 hb4.size
  have HB4 := Lib.hid (HB3.out.trans (hb4.mono HB3.out.size))
  clear hown4 hb4 HX3 HB3 hs3
  obtain ⟨q0, q1, q2, q3⟩ := HX4.out
  go_wp2_with fail
  refine (code_cerr 0 _ (by decide)).mono ?_
  rintro e w' ⟨rfl, rfl⟩
  go_wp2_with fail
  refine (ofc_any ⟨a, b, d, ps⟩ _ _ (HV.out.mono HB4.out (Nat.le_refl _)) (by show ps.length ≤ _; rw [HN.out]; omega)).mono ?_
  rintro e w5 ⟨x5, c5, rfl, hown5, hb5⟩
  simp only [HN.out] at hown5 ⊢
  clear q0 q1 q2 q3
  obtain ⟨gx, rfl⟩ : ∃ gx, x5 = some ⟨gx, 0, none⟩ := by
    rcases hown5.2 with ⟨e, _⟩ | ⟨g, cap', cur, e, _⟩
    · simp only [Value.slice.injEq] at e
      omega
    · simp only [Value.slice.injEq] at e
      exact ⟨g, e.1⟩
  have hgx := hown5.lt gx rfl
  go_upto_region 12 with fail
  have hba : Below w5.heap.size w5 (w5.alloc (.cells #[.int .i64 a, .int .i64 b, .int .i64 d, .slice (some ⟨gx, 0, none⟩) N c5] 34)) := (Below.refl _ _).alloc (Nat.le_refl _) _
  have hb46 := hb5.trans (hba.mono hb5.size)
  have hs6 := Nat.le_trans hs4 hb46.size
  have HX6 := Lib.hid (HX4.out.mono hb46 hs4)
  have HB6 := Lib.hid (HB4.out.trans (hb46.mono HB4.out.size))
  have HO6 := Lib.hid (hown5.alloc (.cells #[.int .i64 a, .int .i64 b, .int .i64 d, .slice (some ⟨gx, 0, none⟩) N c5] 34))
  have HC6 := Lib.hid (BoxC.new w5 a b d (.slice (some ⟨gx, 0, none⟩) N c5) 34)
  have hz6 : w5.heap.size < (w5.alloc (.cells #[.int .i64 a, .int .i64 b, .int .i64 d, .slice (some ⟨gx, 0, none⟩) N c5] 34)).heap.size := by simp
  obtain ⟨w6, hw6⟩ : ∃ w6, w6 = w5.alloc (.cells #[.int .i64 a, .int .i64 b, .int .i64 d, .slice (some ⟨gx, 0, none⟩) N c5] 34) := ⟨_, rfl⟩
  rw [← hw6] at hs6 HX6 HB6 HO6 HC6 hz6 ⊢
  clear hw6 hba hb46 hb5 hown5
  obtain ⟨g8, hg8⟩ : ∃ g8, g8 = w5.heap.size := ⟨_, rfl⟩
  rw [← hg8] at HC6 hz6 hgx ⊢
  clear hg8
  obtain ⟨wo, hwo⟩ : ∃ wo, wo = w4.heap.size := ⟨_, rfl⟩
  rw [← hwo] at HO6 hgx
  have hwos : w.heap.size + 1 ≤ wo := by rw [hwo]; exact hs4
  clear hwo HX4 HB4 hs4
  go_cut [7] from 50 to 72 (fun kk wx => kk = .int .i64 (i : Int) ∧ BoxC wx g8 a b d (.slice (some ⟨gx, 0, none⟩) N c5) ∧ wx.ownsRow wo 52 5 (.slice (some ⟨gx, 0, none⟩) N c5) N (pcs xs) ∧ Below wo w6 wx)
  case first =>
    have hidx := indexAt_G (P := Try.prog) 32 52 Try.underlying32 Try.sizePos gx N c5 i (by omega)
    have hwi : IntKind.i64.wrap ((i : Int) + 1) = (i : Int) + 1 := by rw [IntKind.wrap_i64]; omega
    have hidy : ∀ W, (Instr.indexAt 32 (.slice (some ⟨gx, 0, none⟩) N c5) (.int .i64 ((i : Int) + 1))).run Try.prog W = .ok (.pointer (some ⟨gx, (i + 1) * 5, none⟩)) W := indexAt_G (P := Try.prog) 32 52 Try.underlying32 Try.sizePos gx N c5 (i + 1) hi1
    have K0 : w6.cell? ⟨g8, 3, none⟩ = some (.slice (some ⟨gx, 0, none⟩) N c5) := HC6.out.2.2.2
    have K1 : w6.drew.cell? ⟨g8, 3, none⟩ = some (.slice (some ⟨gx, 0, none⟩) N c5) := K0
    have hP1 := PCells.own HO6.out (i := i) (by rw [HN.out]; omega) HN.out.symm
    have hP2 := PCells.own HO6.out (i := i + 1) (by rw [HN.out]; omega) HN.out.symm
    rw [HP.out] at hP1
    rw [HQQ.out] at hP2
    have p0 : w6.drew.cell? ⟨gx, i * 5, none⟩ = some (.int .u64 (p.key : Int)) := hP1.1
    have p1 : w6.drew.cell? ⟨gx, i * 5 + 1, none⟩ = some (.int .i64 p.off) := hP1.2.1
    have p2 : w6.drew.cell? ⟨gx, i * 5 + 2, none⟩ = some (.int .i64 p.len) := hP1.2.2.1
    have p3 : w6.drew.cell? ⟨gx, i * 5 + 3, none⟩ = some (.int .u32 (p.cookie : Int)) := hP1.2.2.2.1
    have p4 : w6.drew.cell? ⟨gx, i * 5 + 4, none⟩ = some (.bool p.gone) := hP1.2.2.2.2
    have r0 : w6.drew.cell? ⟨gx, (i + 1) * 5, none⟩ = some (.int .u64 (q.key : Int)) := hP2.1
    have r1 : w6.drew.cell? ⟨gx, (i + 1) * 5 + 1, none⟩ = some (.int .i64 q.off) := hP2.2.1
    have r2 : w6.drew.cell? ⟨gx, (i + 1) * 5 + 2, none⟩ = some (.int .i64 q.len) := hP2.2.2.1
    have r3 : w6.drew.cell? ⟨gx, (i + 1) * 5 + 3, none⟩ = some (.int .u32 (q.cookie : Int)) := hP2.2.2.2.1
    have r4 : w6.drew.cell? ⟨gx, (i + 1) * 5 + 4, none⟩ = some (.bool q.gone) := hP2.2.2.2.2
    clear hP1 hP2
    go_wp2_with fail
    have fz : ∀ o, w6.drew.frozen? ⟨gx, o, none⟩ = false := HO6.out.frozenAt
    have HOd : w6.drew.ownsRow wo 52 5 (.slice (some ⟨gx, 0, none⟩) N c5) N (pcs ps) := HO6.out
    have HOa := row_set HOd i q (by rw [HN.out]; omega)
    have fza := HOa.frozenAt
    obtain ⟨s0, s1, s2, s3, s4⟩ := PCells.own HOa (i := i + 1) (by rw [List.length_set, HN.out]; omega) (by rw [List.length_set]; exact HN.out.symm)
    rw [pat_set_ne _ (by omega), HQQ.out] at s0 s1 s2 s3 s4
    have HOb := Lib.hid (row_set HOa (i + 1) p (by rw [List.length_set, HN.out]; omega))
    rw [← HXS.out] at HOb
    have HCd : BoxC w6.drew g8 a b d (.slice (some ⟨gx, 0, none⟩) N c5) := HC6.out
    have HCb := Lib.hid (boxC_set5 (k := (i + 1) * 5) (u0 := .int .u64 (p.key : Int)) (u1 := .int .i64 p.off) (u2 := .int .i64 p.len) (u3 := .int .u32 (p.cookie : Int)) (u4 := .bool p.gone) (show g8 ≠ gx by omega) (boxC_set5 (k := i * 5) (u0 := .int .u64 (q.key : Int)) (u1 := .int .i64 q.off) (u2 := .int .i64 q.len) (u3 := .int .u32 (q.cookie : Int)) (u4 := .bool q.gone) (show g8 ≠ gx by omega) HCd))
    have HLb := Lib.hid (row_below (k := (i + 1) * 5) (u0 := .int .u64 (p.key : Int)) (u1 := .int .i64 p.off) (u2 := .int .i64 p.len) (u3 := .int .u32 (p.cookie : Int)) (u4 := .bool p.gone) (row_below (k := i * 5) (u0 := .int .u64 (q.key : Int)) (u1 := .int .i64 q.off) (u2 := .int .i64 q.len) (u3 := .int .u32 (q.cookie : Int)) (u4 := .bool q.gone) ((Below.refl wo w6).drew) hgx.1) hgx.1)
    clear HOd HOa HCd
    go_wp2_with fail
    refine wp_region_noPanic ?_
    refine wp_region_held_drew (S := (fun wx => wx.cell? ⟨g8, 3, none⟩ = some (.slice (some ⟨gx, 0, none⟩) N c5))) (by kernel_rfl) (K1) (fun hHeld => ?_)
    refine wpAnyH_take (i := 0) (v := ?_) rfl (by kernel_rfl) (by kernel_rfl) (by kernel_rfl) (fun _ _ _ h => h) (Or.inl ⟨by rfl, ?_⟩) (by assumption) ?_
    rotate_left 1
    · intro w hSw
      (try dsimp only at hSw)
      go_simp
      all_goals (with_reducible rfl)
    try simp only [Act.put, List.getElem_toArray, List.getElem_cons_zero, List.getElem_cons_succ, List.setIfInBounds_toArray, List.set_cons_zero, List.set_cons_succ]
    refine wpAnyH_take (i := 1) (v := ?_) rfl (by kernel_rfl) (by kernel_rfl) (by kernel_rfl) (fun _ _ _ h => h) (Or.inl ⟨by rfl, ?_⟩) (by assumption) ?_
    rotate_left 1
    · intro w hSw
      (try dsimp only at hSw)
      go_simp
      all_goals (with_reducible rfl)
    try simp only [Act.put, List.getElem_toArray, List.getElem_cons_zero, List.getElem_cons_succ, List.setIfInBounds_toArray, List.set_cons_zero, List.set_cons_succ]
    refine wpAnyH_take (i := 2) (v := ?_) rfl (by kernel_rfl) (by kernel_rfl) (by kernel_rfl) (fun _ _ _ h => h) (Or.inl ⟨by rfl, ?_⟩) (by assumption) ?_
    rotate_left 1
    · intro w hSw
      (try dsimp only at hSw)
      go_simp
      all_goals (with_reducible rfl)
    try simp only [Act.put, List.getElem_toArray, List.getElem_cons_zero, List.getElem_cons_succ, List.setIfInBounds_toArray, List.set_cons_zero, List.set_cons_succ]
    refine wpAnyH_take (i := 3) (v := ?_) rfl (by kernel_rfl) (by kernel_rfl) (by kernel_rfl) (fun _ _ _ h => h) (Or.inl ⟨by rfl, ?_⟩) (by assumption) ?_
    rotate_left 1
    · intro w hSw
      (try dsimp only at hSw)
      go_simp
      all_goals (with_reducible rfl)
    try simp only [Act.put, List.getElem_toArray, List.getElem_cons_zero, List.getElem_cons_succ, List.setIfInBounds_toArray, List.set_cons_zero, List.set_cons_succ]
    refine wpAnyH_take (i := 4) (v := ?_) rfl (by kernel_rfl) (by kernel_rfl) (by kernel_rfl) (fun _ _ _ h => h) (Or.inl ⟨by rfl, ?_⟩) (by assumption) ?_
    rotate_left 1
    · intro w hSw
      (try dsimp only at hSw)
      go_simp
      all_goals (with_reducible rfl)
    try simp only [Act.put, List.getElem_toArray, List.getElem_cons_zero, List.getElem_cons_succ, List.setIfInBounds_toArray, List.set_cons_zero, List.set_cons_succ]
    refine wpAnyH_take (i := 5) (v := ?_) rfl (by kernel_rfl) (by kernel_rfl) (by kernel_rfl) (fun _ _ _ h => h) (Or.inl ⟨by rfl, ?_⟩) (by assumption) ?_
    rotate_left 1
    · intro w hSw
      (try dsimp only at hSw)
      go_simp
      all_goals (with_reducible rfl)
    try simp only [Act.put, List.getElem_toArray, List.getElem_cons_zero, List.getElem_cons_succ, List.setIfInBounds_toArray, List.set_cons_zero, List.set_cons_succ]
    refine wpAnyH_take (i := 6) (v := ?_) rfl (by kernel_rfl) (by kernel_rfl) (by kernel_rfl) (fun _ _ _ h => h) (Or.inl ⟨by rfl, ?_⟩) (by assumption) ?_
    rotate_left 1
    · intro w hSw
      (try dsimp only at hSw)
      go_simp
      all_goals (with_reducible rfl)
    try simp only [Act.put, List.getElem_toArray, List.getElem_cons_zero, List.getElem_cons_succ, List.setIfInBounds_toArray, List.set_cons_zero, List.set_cons_succ]
    refine wpAnyH_take (i := 7) (v := ?_) rfl (by kernel_rfl) (by kernel_rfl) (by kernel_rfl) (fun _ _ _ h => h) (Or.inl ⟨by rfl, ?_⟩) (by assumption) ?_
    rotate_left 1
    · intro w hSw
      (try dsimp only at hSw)
      go_simp
      all_goals (with_reducible rfl)
    try simp only [Act.put, List.getElem_toArray, List.getElem_cons_zero, List.getElem_cons_succ, List.setIfInBounds_toArray, List.set_cons_zero, List.set_cons_succ]
    refine wpAnyH_take (i := 8) (v := ?_) rfl (by kernel_rfl) (by kernel_rfl) (by kernel_rfl) (fun _ _ _ h => h) (Or.inl ⟨by rfl, ?_⟩) (by assumption) ?_
    rotate_left 1
    · intro w hSw
      (try dsimp only at hSw)
      go_simp
      all_goals (with_reducible rfl)
    try simp only [Act.put, List.getElem_toArray, List.getElem_cons_zero, List.getElem_cons_succ, List.setIfInBounds_toArray, List.set_cons_zero, List.set_cons_succ]
    refine wpAnyH_take (i := 9) (v := ?_) rfl (by kernel_rfl) (by kernel_rfl) (by kernel_rfl) (fun _ _ _ h => h) (Or.inl ⟨by rfl, ?_⟩) (by assumption) ?_
    rotate_left 1
    · intro w hSw
      (try dsimp only at hSw)
      go_simp
      all_goals (with_reducible rfl)
    try simp only [Act.put, List.getElem_toArray, List.getElem_cons_zero, List.getElem_cons_succ, List.setIfInBounds_toArray, List.set_cons_zero, List.set_cons_succ]
    refine wpAnyH_take (i := 10) (v := ?_) rfl (by kernel_rfl) (by kernel_rfl) (by kernel_rfl) (fun _ _ _ h => h) (Or.inl ⟨by rfl, ?_⟩) (by assumption) ?_
    rotate_left 1
    · intro w hSw
      (try dsimp only at hSw)
      go_simp
      all_goals (with_reducible rfl)
    try simp only [Act.put, List.getElem_toArray, List.getElem_cons_zero, List.getElem_cons_succ, List.setIfInBounds_toArray, List.set_cons_zero, List.set_cons_succ]
    refine wpAnyH_take (i := 13) (v := ?_) rfl (by kernel_rfl) (by kernel_rfl) (by kernel_rfl) (fun _ _ _ h => h) (Or.inl ⟨by rfl, ?_⟩) (by assumption) ?_
    rotate_left 1
    · intro w hSw
      (try dsimp only at hSw)
      go_simp
      all_goals (with_reducible rfl)
    try simp only [Act.put, List.getElem_toArray, List.getElem_cons_zero, List.getElem_cons_succ, List.setIfInBounds_toArray, List.set_cons_zero, List.set_cons_succ]
    refine wpAnyH_take (i := 14) (v := ?_) rfl (by kernel_rfl) (by kernel_rfl) (by kernel_rfl) (fun _ _ _ h => h) (Or.inl ⟨by rfl, ?_⟩) (by assumption) ?_
    rotate_left 1
    · intro w hSw
      (try dsimp only at hSw)
      go_simp
      all_goals (with_reducible rfl)
    try simp only [Act.put, List.getElem_toArray, List.getElem_cons_zero, List.getElem_cons_succ, List.setIfInBounds_toArray, List.set_cons_zero, List.set_cons_succ]
    refine wpAnyH_take (i := 15) (v := ?_) rfl (by kernel_rfl) (by kernel_rfl) (by kernel_rfl) (fun _ _ _ h => h) (Or.inl ⟨by rfl, ?_⟩) (by assumption) ?_
    rotate_left 1
    · intro w hSw
      (try dsimp only at hSw)
      go_simp
      all_goals (with_reducible rfl)
    try simp only [Act.put, List.getElem_toArray, List.getElem_cons_zero, List.getElem_cons_succ, List.setIfInBounds_toArray, List.set_cons_zero, List.set_cons_succ]
    refine wpAnyH_take (i := 16) (v := ?_) rfl (by kernel_rfl) (by kernel_rfl) (by kernel_rfl) (fun _ _ _ h => h) (Or.inl ⟨by rfl, ?_⟩) (by assumption) ?_
    rotate_left 1
    · intro w hSw
      (try dsimp only at hSw)
      go_simp
      all_goals (with_reducible rfl)
    try simp only [Act.put, List.getElem_toArray, List.getElem_cons_zero, List.getElem_cons_succ, List.setIfInBounds_toArray, List.set_cons_zero, List.set_cons_succ]
    refine wpAnyH_take (i := 11) (v := ?_) rfl (by kernel_rfl) (by kernel_rfl) (by kernel_rfl) (fun _ _ _ h => h) (Or.inl ⟨by rfl, ?_⟩) (by assumption) ?_
    rotate_left 1
    · intro w hSw
      (try dsimp only at hSw)
      go_simp
      all_goals (with_reducible rfl)
    try simp only [Act.put, List.getElem_toArray, List.getElem_cons_zero, List.getElem_cons_succ, List.setIfInBounds_toArray, List.set_cons_zero, List.set_cons_succ]
    refine wpAnyH_ready (rs := [12, 17]) (by kernel_rfl) (by simp) ?_
    refine AllReadyH.cons rfl (fun K hK => ?_) ?_
    · go_simp
      refine hK.out _ _ (K1) (fun hHeld => ?_)
      clear hK K
      try simp only [Act.put, List.getElem_toArray, List.getElem_cons_zero, List.getElem_cons_succ, List.setIfInBounds_toArray, List.set_cons_zero, List.set_cons_succ]
      refine wpAnyH_ready (rs := [17]) (by kernel_rfl) (by simp) ?_
      refine AllReadyH.cons rfl (fun K hK => ?_) AllReadyH.nil
      go_simp
      refine hK.out _ _ (K1) (fun hHeld => ?_)
      clear hK K
      try simp only [Act.put, List.getElem_toArray, List.getElem_cons_zero, List.getElem_cons_succ, List.setIfInBounds_toArray, List.set_cons_zero, List.set_cons_succ]
      refine wpAnyH_take (i := 18) (v := ?_) rfl (by kernel_rfl) (by kernel_rfl) (by kernel_rfl) (fun _ _ _ h => h) (Or.inl ⟨by rfl, ?_⟩) (by assumption) ?_
      rotate_left 1
      · intro w hSw
        (try dsimp only at hSw)
        go_simp
        all_goals (with_reducible rfl)
      try simp only [Act.put, List.getElem_toArray, List.getElem_cons_zero, List.getElem_cons_succ, List.setIfInBounds_toArray, List.set_cons_zero, List.set_cons_succ]
      refine wpAnyH_ready (rs := [19]) (by kernel_rfl) (by simp) ?_
      refine AllReadyH.cons rfl (fun K hK => ?_) AllReadyH.nil
      rw [if_pos (by rfl)]
      refine wp_store5 52 Try.sizePos (.tmp 71) (.tmp 65) rfl gx (i * 5) _ _ _ _ _ (q.key : Int) q.off q.len (q.cookie : Int) q.gone rfl rfl p0 p1 p2 p3 p4 fz ?_
      refine hK.out _ _ (cell_set5 (by omega) K1) (fun hHeld => ?_)
      clear hK K
      try simp only [Act.put, List.getElem_toArray, List.getElem_cons_zero, List.getElem_cons_succ, List.setIfInBounds_toArray, List.set_cons_zero, List.set_cons_succ]
      refine wpAnyH_take (i := 20) (v := ?_) rfl (by kernel_rfl) (by kernel_rfl) (by kernel_rfl) (fun _ _ _ h => h) (Or.inl ⟨by rfl, ?_⟩) (by assumption) ?_
      rotate_left 1
      · intro w hSw
        (try dsimp only at hSw)
        go_simp
        all_goals (with_reducible rfl)
      try simp only [Act.put, List.getElem_toArray, List.getElem_cons_zero, List.getElem_cons_succ, List.setIfInBounds_toArray, List.set_cons_zero, List.set_cons_succ]
      refine wpAnyH_ready (rs := [21]) (by kernel_rfl) (by simp) ?_
      refine AllReadyH.cons rfl (fun K hK => ?_) AllReadyH.nil
      rw [if_pos (by rfl)]
      refine wp_store5 52 Try.sizePos (.tmp 72) (.tmp 70) rfl gx ((i + 1) * 5) _ _ _ _ _ (p.key : Int) p.off p.len (p.cookie : Int) p.gone rfl rfl s0 s1 s2 s3 s4 fza ?_
      refine hK.out _ _ (cell_set5 (by omega) (cell_set5 (by omega) K1)) (fun hHeld => ?_)
      clear hK K
      try simp only [Act.put, List.getElem_toArray, List.getElem_cons_zero, List.getElem_cons_succ, List.setIfInBounds_toArray, List.set_cons_zero, List.set_cons_succ]
      refine wpAnyH_done (by kernel_rfl) (NoPanic.normal ?_) _
      go_wp2_with fail
      go_meet
      exact ⟨rfl, HCb.out, HOb.out, HLb.out⟩
    refine AllReadyH.cons rfl (fun K hK => ?_) AllReadyH.nil
    go_simp
    refine hK.out _ _ (K1) (fun hHeld => ?_)
    clear hK K
    try simp only [Act.put, List.getElem_toArray, List.getElem_cons_zero, List.getElem_cons_succ, List.setIfInBounds_toArray, List.set_cons_zero, List.set_cons_succ]
    refine wpAnyH_ready (rs := [12]) (by kernel_rfl) (by simp) ?_
    refine AllReadyH.cons rfl (fun K hK => ?_) AllReadyH.nil
    go_simp
    refine hK.out _ _ (K1) (fun hHeld => ?_)
    clear hK K
    try simp only [Act.put, List.getElem_toArray, List.getElem_cons_zero, List.getElem_cons_succ, List.setIfInBounds_toArray, List.set_cons_zero, List.set_cons_succ]
    refine wpAnyH_take (i := 18) (v := ?_) rfl (by kernel_rfl) (by kernel_rfl) (by kernel_rfl) (fun _ _ _ h => h) (Or.inl ⟨by rfl, ?_⟩) (by assumption) ?_
    rotate_left 1
    · intro w hSw
      (try dsimp only at hSw)
      go_simp
      all_goals (with_reducible rfl)
    try simp only [Act.put, List.getElem_toArray, List.getElem_cons_zero, List.getElem_cons_succ, List.setIfInBounds_toArray, List.set_cons_zero, List.set_cons_succ]
    refine wpAnyH_ready (rs := [19]) (by kernel_rfl) (by simp) ?_
    refine AllReadyH.cons rfl (fun K hK => ?_) AllReadyH.nil
    rw [if_pos (by rfl)]
    refine wp_store5 52 Try.sizePos (.tmp 71) (.tmp 65) rfl gx (i * 5) _ _ _ _ _ (q.key : Int) q.off q.len (q.cookie : Int) q.gone rfl rfl p0 p1 p2 p3 p4 fz ?_
    refine hK.out _ _ (cell_set5 (by omega) K1) (fun hHeld => ?_)
    clear hK K
    try simp only [Act.put, List.getElem_toArray, List.getElem_cons_zero, List.getElem_cons_succ, List.setIfInBounds_toArray, List.set_cons_zero, List.set_cons_succ]
    refine wpAnyH_take (i := 20) (v := ?_) rfl (by kernel_rfl) (by kernel_rfl) (by kernel_rfl) (fun _ _ _ h => h) (Or.inl ⟨by rfl, ?_⟩) (by assumption) ?_
    rotate_left 1
    · intro w hSw
      (try dsimp only at hSw)
      go_simp
      all_goals (with_reducible rfl)
    try simp only [Act.put, List.getElem_toArray, List.getElem_cons_zero, List.getElem_cons_succ, List.setIfInBounds_toArray, List.set_cons_zero, List.set_cons_succ]
    refine wpAnyH_ready (rs := [21]) (by kernel_rfl) (by simp) ?_
    refine AllReadyH.cons rfl (fun K hK => ?_) AllReadyH.nil
    rw [if_pos (by rfl)]
    refine wp_store5 52 Try.sizePos (.tmp 72) (.tmp 70) rfl gx ((i + 1) * 5) _ _ _ _ _ (p.key : Int) p.off p.len (p.cookie : Int) p.gone rfl rfl s0 s1 s2 s3 s4 fza ?_
    refine hK.out _ _ (cell_set5 (by omega) (cell_set5 (by omega) K1)) (fun hHeld => ?_)
    clear hK K
    try simp only [Act.put, List.getElem_toArray, List.getElem_cons_zero, List.getElem_cons_succ, List.setIfInBounds_toArray, List.set_cons_zero, List.set_cons_succ]
    refine wpAnyH_done (by kernel_rfl) (NoPanic.normal ?_) _
    go_wp2_with fail
    go_meet
    exact ⟨rfl, HCb.out, HOb.out, HLb.out⟩
  case rest =>
  obtain ⟨rfl, hC7, hO7, hb67⟩ := hcut
  obtain ⟨w7, hw7⟩ : ∃ w7, w7 = wc := ⟨_, rfl⟩
  subst hw7
  have HX7 := Lib.hid (HX6.out.mono hb67 (show w.heap.size < wo from hwos))
  have hs7 := Nat.le_trans hs6 hb67.size
  have hz7 := Nat.lt_of_lt_of_le hz6 hb67.size
  have HB7 := Lib.hid (HB6.out.trans (hb67.mono (Nat.le_of_succ_le hwos)))
  have HC7 := Lib.hid hC7
  have HPx := Lib.hid (IsP.own hO7 (by rw [HXS.out]; simp; exact HN.out.symm))
  have hgx8 : gx < g8 := hgx.2
  clear hC7 hO7 hb67 HX6 HB6 HO6 HC6 hz6 hs6 hgx hwos
  obtain ⟨q0, q1, q2, q3⟩ := HX7.out
  go_wp2_with fail
  refine (ofc_any ⟨a, b, d, ps⟩ _ _ (HV.out.mono HB7.out (Nat.le_refl _)) (by show ps.length ≤ _; rw [HN.out]; omega)).mono ?_
  rintro e w8 ⟨x8, c8, rfl, hown8, hb8⟩
  simp only [HN.out] at hown8 ⊢
  clear q0 q1 q2 q3
  obtain ⟨gy, rfl⟩ : ∃ gy, x8 = some ⟨gy, 0, none⟩ := by
    rcases hown8.2 with ⟨e, _⟩ | ⟨g, cap', cur, e, _⟩
    · simp only [Value.slice.injEq] at e
      omega
    · simp only [Value.slice.injEq] at e
      exact ⟨g, e.1⟩
  have hgy := hown8.lt gy rfl
  go_upto_region 14 with fail
  have hba : Below w8.heap.size w8 (w8.alloc (.cells #[.int .i64 a, .int .i64 b, .int .i64 d, .slice (some ⟨gy, 0, none⟩) N c8] 34)) := (Below.refl _ _).alloc (Nat.le_refl _) _
  have hb79 := hb8.trans (hba.mono hb8.size)
  have hs9 := Nat.le_trans hs7 hb79.size
  have hz9x := Nat.lt_of_lt_of_le hz7 hb79.size
  have HX9 := Lib.hid (HX7.out.mono hb79 hs7)
  have HB9 := Lib.hid (HB7.out.trans (hb79.mono HB7.out.size))
  have HC9 := Lib.hid (HC7.out.mono hb79 hz7)
  have HPx9 := Lib.hid (HPx.out.mono hb79 (Nat.le_refl _))
  have HO9 := Lib.hid (hown8.alloc (.cells #[.int .i64 a, .int .i64 b, .int .i64 d, .slice (some ⟨gy, 0, none⟩) N c8] 34))
  have HD9 := Lib.hid (BoxC.new w8 a b d (.slice (some ⟨gy, 0, none⟩) N c8) 34)
  have hz9 : w8.heap.size < (w8.alloc (.cells #[.int .i64 a, .int .i64 b, .int .i64 d, .slice (some ⟨gy, 0, none⟩) N c8] 34)).heap.size := by simp
  obtain ⟨w9, hw9⟩ : ∃ w9, w9 = w8.alloc (.cells #[.int .i64 a, .int .i64 b, .int .i64 d, .slice (some ⟨gy, 0, none⟩) N c8] 34) := ⟨_, rfl⟩
  rw [← hw9] at hs9 hz9x HX9 HB9 HC9 HPx9 HO9 HD9 hz9 ⊢
  have HB79 := Lib.hid (show Below w7.heap.size w7 w9 from by rw [hw9]; exact hb79)
  clear hw9 hba hb79 hb8 hown8
  obtain ⟨g9, hg9⟩ : ∃ g9, g9 = w8.heap.size := ⟨_, rfl⟩
  rw [← hg9] at HD9 hz9 hgy ⊢
  clear hg9
  obtain ⟨wp, hwp⟩ : ∃ wp, wp = w7.heap.size := ⟨_, rfl⟩
  have HPw := Lib.hid (show w7.heap.size ≤ wp from by rw [hwp]; exact Nat.le_refl _)
  rw [← hwp] at HO9 hgy hs7 hz7 HB79
  clear hwp HX7 HC7
  go_cut [7] from 73 to 86 (fun kk wx => kk = .int .i64 (i : Int) ∧ BoxC wx g9 a b d (.slice (some ⟨gy, 0, none⟩) N c8) ∧ wx.ownsRow wp 52 5 (.slice (some ⟨gy, 0, none⟩) N c8) N (pcs ys) ∧ Below wp w9 wx)
  case first =>
    have hwi : IntKind.i64.wrap ((i : Int) + 1) = (i : Int) + 1 := by rw [IntKind.wrap_i64]; omega
    have hidx := indexAt_G (P := Try.prog) 32 52 Try.underlying32 Try.sizePos gy N c8 i (by omega)
    have hidy : ∀ W, (Instr.indexAt 32 (.slice (some ⟨gy, 0, none⟩) N c8) (.int .i64 ((i : Int) + 1))).run Try.prog W = .ok (.pointer (some ⟨gy, (i + 1) * 5, none⟩)) W := indexAt_G (P := Try.prog) 32 52 Try.underlying32 Try.sizePos gy N c8 (i + 1) hi1
    have K0 : w9.cell? ⟨g9, 3, none⟩ = some (.slice (some ⟨gy, 0, none⟩) N c8) := HD9.out.2.2.2
    have K1 : w9.drew.cell? ⟨g9, 3, none⟩ = some (.slice (some ⟨gy, 0, none⟩) N c8) := K0
    have hP1 := PCells.own HO9.out (i := i) (by rw [HN.out]; omega) HN.out.symm
    have hP2 := PCells.own HO9.out (i := i + 1) (by rw [HN.out]; omega) HN.out.symm
    rw [HP.out] at hP1
    rw [HQQ.out] at hP2
    have p0 : w9.drew.cell? ⟨gy, i * 5, none⟩ = some (.int .u64 (p.key : Int)) := hP1.1
    have r0 : w9.drew.cell? ⟨gy, (i + 1) * 5, none⟩ = some (.int .u64 (q.key : Int)) := hP2.1
    have fz : w9.drew.frozen? ⟨gy, (i + 1) * 5, none⟩ = false := HO9.out.frozenAt _
    have HOd : w9.drew.ownsRow wp 52 5 (.slice (some ⟨gy, 0, none⟩) N c8) N (pcs ps) := HO9.out
    have hOy := (HOd.stored ((i + 1) * 5) (.int .u64 (p.key : Int))).1
    rw [pcs_set_key ps (i + 1) p.key (by rw [HN.out]; omega), HQQ.out, ← HYS.out] at hOy
    have HOy := Lib.hid hOy
    have HDd : BoxC w9.drew g9 a b d (.slice (some ⟨gy, 0, none⟩) N c8) := HD9.out
    have HDy := Lib.hid (show BoxC (w9.drew.setCell ⟨gy, (i + 1) * 5, none⟩ (.int .u64 (p.key : Int))) g9 a b d (.slice (some ⟨gy, 0, none⟩) N c8) from ⟨cell_set1 (by omega) HDd.1, cell_set1 (by omega) HDd.2.1, cell_set1 (by omega) HDd.2.2.1, cell_set1 (by omega) HDd.2.2.2⟩)
    have HLy := Lib.hid (((Below.refl wp w9).drew).setCell (p := ⟨gy, (i + 1) * 5, none⟩) (show wp ≤ gy from hgy.1) (.int .u64 (p.key : Int)))
    clear hP1 hP2 HOd hOy HDd
    go_wp2_with fail
    refine wp_region_noPanic ?_
    refine wp_region_held_drew (S := (fun wx => wx.cell? ⟨g9, 3, none⟩ = some (.slice (some ⟨gy, 0, none⟩) N c8))) (by kernel_rfl) (K1) (fun hHeld => ?_)
    refine wpAnyH_take (i := 0) (v := ?_) rfl (by kernel_rfl) (by kernel_rfl) (by kernel_rfl) (fun _ _ _ h => h) (Or.inl ⟨by rfl, ?_⟩) (by assumption) ?_
    rotate_left 1
    · intro w hSw
      (try dsimp only at hSw)
      go_simp
      all_goals (with_reducible rfl)
    try simp only [Act.put, List.getElem_toArray, List.getElem_cons_zero, List.getElem_cons_succ, List.setIfInBounds_toArray, List.set_cons_zero, List.set_cons_succ]
    refine wpAnyH_take (i := 1) (v := ?_) rfl (by kernel_rfl) (by kernel_rfl) (by kernel_rfl) (fun _ _ _ h => h) (Or.inl ⟨by rfl, ?_⟩) (by assumption) ?_
    rotate_left 1
    · intro w hSw
      (try dsimp only at hSw)
      go_simp
      all_goals (with_reducible rfl)
    try simp only [Act.put, List.getElem_toArray, List.getElem_cons_zero, List.getElem_cons_succ, List.setIfInBounds_toArray, List.set_cons_zero, List.set_cons_succ]
    refine wpAnyH_take (i := 2) (v := ?_) rfl (by kernel_rfl) (by kernel_rfl) (by kernel_rfl) (fun _ _ _ h => h) (Or.inl ⟨by rfl, ?_⟩) (by assumption) ?_
    rotate_left 1
    · intro w hSw
      (try dsimp only at hSw)
      go_simp
      all_goals (with_reducible rfl)
    try simp only [Act.put, List.getElem_toArray, List.getElem_cons_zero, List.getElem_cons_succ, List.setIfInBounds_toArray, List.set_cons_zero, List.set_cons_succ]
    refine wpAnyH_take (i := 3) (v := ?_) rfl (by kernel_rfl) (by kernel_rfl) (by kernel_rfl) (fun _ _ _ h => h) (Or.inl ⟨by rfl, ?_⟩) (by assumption) ?_
    rotate_left 1
    · intro w hSw
      (try dsimp only at hSw)
      go_simp
      all_goals (with_reducible rfl)
    try simp only [Act.put, List.getElem_toArray, List.getElem_cons_zero, List.getElem_cons_succ, List.setIfInBounds_toArray, List.set_cons_zero, List.set_cons_succ]
    refine wpAnyH_take (i := 4) (v := ?_) rfl (by kernel_rfl) (by kernel_rfl) (by kernel_rfl) (fun _ _ _ h => h) (Or.inl ⟨by rfl, ?_⟩) (by assumption) ?_
    rotate_left 1
    · intro w hSw
      (try dsimp only at hSw)
      go_simp
      all_goals (with_reducible rfl)
    try simp only [Act.put, List.getElem_toArray, List.getElem_cons_zero, List.getElem_cons_succ, List.setIfInBounds_toArray, List.set_cons_zero, List.set_cons_succ]
    refine wpAnyH_take (i := 5) (v := ?_) rfl (by kernel_rfl) (by kernel_rfl) (by kernel_rfl) (fun _ _ _ h => h) (Or.inl ⟨by rfl, ?_⟩) (by assumption) ?_
    rotate_left 1
    · intro w hSw
      (try dsimp only at hSw)
      go_simp
      all_goals (with_reducible rfl)
    try simp only [Act.put, List.getElem_toArray, List.getElem_cons_zero, List.getElem_cons_succ, List.setIfInBounds_toArray, List.set_cons_zero, List.set_cons_succ]
    refine wpAnyH_take (i := 6) (v := ?_) rfl (by kernel_rfl) (by kernel_rfl) (by kernel_rfl) (fun _ _ _ h => h) (Or.inl ⟨by rfl, ?_⟩) (by assumption) ?_
    rotate_left 1
    · intro w hSw
      (try dsimp only at hSw)
      go_simp
      all_goals (with_reducible rfl)
    try simp only [Act.put, List.getElem_toArray, List.getElem_cons_zero, List.getElem_cons_succ, List.setIfInBounds_toArray, List.set_cons_zero, List.set_cons_succ]
    refine wpAnyH_take (i := 7) (v := ?_) rfl (by kernel_rfl) (by kernel_rfl) (by kernel_rfl) (fun _ _ _ h => h) (Or.inl ⟨by rfl, ?_⟩) (by assumption) ?_
    rotate_left 1
    · intro w hSw
      (try dsimp only at hSw)
      go_simp
      all_goals (with_reducible rfl)
    try simp only [Act.put, List.getElem_toArray, List.getElem_cons_zero, List.getElem_cons_succ, List.setIfInBounds_toArray, List.set_cons_zero, List.set_cons_succ]
    refine wpAnyH_take (i := 8) (v := ?_) rfl (by kernel_rfl) (by kernel_rfl) (by kernel_rfl) (fun _ _ _ h => h) (Or.inl ⟨by rfl, ?_⟩) (by assumption) ?_
    rotate_left 1
    · intro w hSw
      (try dsimp only at hSw)
      go_simp
      all_goals (with_reducible rfl)
    try simp only [Act.put, List.getElem_toArray, List.getElem_cons_zero, List.getElem_cons_succ, List.setIfInBounds_toArray, List.set_cons_zero, List.set_cons_succ]
    refine wpAnyH_ready (rs := [9]) (by kernel_rfl) (by simp) ?_
    refine AllReadyH.cons rfl (fun K hK => ?_) AllReadyH.nil
    go_simp
    refine hK.out _ _ (K1) (fun hHeld => ?_)
    clear hK K
    try simp only [Act.put, List.getElem_toArray, List.getElem_cons_zero, List.getElem_cons_succ, List.setIfInBounds_toArray, List.set_cons_zero, List.set_cons_succ]
    refine wpAnyH_take (i := 10) (v := ?_) rfl (by kernel_rfl) (by kernel_rfl) (by kernel_rfl) (fun _ _ _ h => h) (Or.inl ⟨by rfl, ?_⟩) (by assumption) ?_
    rotate_left 1
    · intro w hSw
      (try dsimp only at hSw)
      go_simp
      all_goals (with_reducible rfl)
    try simp only [Act.put, List.getElem_toArray, List.getElem_cons_zero, List.getElem_cons_succ, List.setIfInBounds_toArray, List.set_cons_zero, List.set_cons_succ]
    refine wpAnyH_take (i := 11) (v := ?_) rfl (by kernel_rfl) (by kernel_rfl) (by kernel_rfl) (fun _ _ _ h => h) (Or.inl ⟨by rfl, ?_⟩) (by assumption) ?_
    rotate_left 1
    · intro w hSw
      (try dsimp only at hSw)
      go_simp
      all_goals (with_reducible rfl)
    try simp only [Act.put, List.getElem_toArray, List.getElem_cons_zero, List.getElem_cons_succ, List.setIfInBounds_toArray, List.set_cons_zero, List.set_cons_succ]
    refine wpAnyH_ready (rs := [12]) (by kernel_rfl) (by simp) ?_
    refine AllReadyH.cons rfl (fun K hK => ?_) AllReadyH.nil
    rw [if_pos (by rfl)]
    refine wp_store1 49 Try.sizeU64 (.tmp 86) (.tmp 84) rfl gy ((i + 1) * 5) _ .u64 (p.key : Int) rfl rfl r0 fz ?_
    refine hK.out _ _ (cell_set1 (by omega) K1) (fun hHeld => ?_)
    clear hK K
    try simp only [Act.put, List.getElem_toArray, List.getElem_cons_zero, List.getElem_cons_succ, List.setIfInBounds_toArray, List.set_cons_zero, List.set_cons_succ]
    refine wpAnyH_done (by kernel_rfl) (NoPanic.normal ?_) _
    go_wp2_with fail
    go_meet
    exact ⟨rfl, HDy.out, HOy.out, HLy.out⟩
  case rest =>
  obtain ⟨rfl, hC10, hO10, hb10⟩ := hcut
  have HX10 := Lib.hid (HX9.out.mono hb10 (by omega))
  have HC10x := Lib.hid (HC9.out.mono hb10 hz7)
  have hzx := Nat.lt_of_lt_of_le hz9x hb10.size
  have hzy := Nat.lt_of_lt_of_le hz9 hb10.size
  have hs10 := Nat.le_trans hs9 hb10.size
  have HB10 := Lib.hid (HB9.out.trans (hb10.mono (by omega)))
  have HPx10 := Lib.hid (HPx.out.mono (HB79.out.trans hb10) HPw.out)
  have HC10y := Lib.hid hC10
  have HPy10 := Lib.hid (IsP.own hO10 (by rw [HYS.out]; simp; exact HN.out.symm))
  clear hC10 hO10 hb10 HX9 HC9 HB9 HO9 HD9 HPx9 HPx HB79 hz9x hz9 hs9 hgy hs7 hz7
  obtain ⟨q0, q1, q2, q3⟩ := HC10x.out
  go_wp2_with fail
  refine (right_any ⟨a, b, d, xs⟩ _ _ HPx10.out).mono ?_
  rintro e w11 ⟨rfl, hb11⟩
  rw [HXR.out]
  have HX11 := Lib.hid (HX10.out.mono hb11 hs10)
  have hs11 := Nat.le_trans hs10 hb11.size
  have HB11 := Lib.hid (HB10.out.trans (hb11.mono HB10.out.size))
  have HC11y := Lib.hid (HC10y.out.mono hb11 hzy)
  have HPy11 := Lib.hid (HPy10.out.mono hb11 (Nat.le_refl _))
  clear hb11 q0 q1 q2 q3 HX10 HB10 HC10y HPy10 HC10x HPx10 hzx hzy hs10
  go_wp2_with fail
  refine (code_cerr 1 _ (by decide)).mono ?_
  rintro e w' ⟨rfl, rfl⟩
  obtain ⟨q0, q1, q2, q3⟩ := HC11y.out
  go_wp2_with fail
  refine (right_any ⟨a, b, d, ys⟩ _ _ HPy11.out).mono ?_
  rintro e w12 ⟨rfl, hb12⟩
  rw [HYR.out]
  have HX12 := Lib.hid (HX11.out.mono hb12 hs11)
  have HB12 := Lib.hid (HB11.out.trans (hb12.mono HB11.out.size))
  clear hb12 q0 q1 q2 q3 HX11 HB11 HC11y HPy11 hs11
  go_wp2_with fail
  refine (code_cerr 1 _ (by decide)).mono ?_
  rintro e w' ⟨rfl, rfl⟩
  obtain ⟨q0, q1, q2, q3⟩ := HX12.out
  go_wp2_with fail
  refine (ofc_any ⟨a, b, d, ps⟩ _ _ (HV.out.mono HB12.out (Nat.le_refl _)) (by show ps.length ≤ _; rw [HN.out]; omega)).mono ?_
  rintro e w13 ⟨x13, c13, rfl, hown13, hb13⟩
  have HP13 := Lib.hid (show IsP w13 (.slice x13 N c13) ps from by have := IsP.own hown13 rfl; rwa [show (Chk.mk a b d ps).l.length = N from HN.out] at this)
  simp only [HN.out]
  have HB13 := Lib.hid (HB12.out.trans (hb13.mono HB12.out.size))
  clear hown13 hb13 q0 q1 q2 q3 HX12 HB12
  go_wp2_with fail
  refine (right_any ⟨a, b, d, ps⟩ _ _ HP13.out).mono ?_
  rintro e w14 ⟨rfl, hb14⟩
  rw [HQ.out]
  have HB14 := Lib.hid (HB13.out.trans (hb14.mono HB13.out.size))
  clear hb14
  go_wp2_with fail
  refine (code_cerr 0 _ (by decide)).mono ?_
  rintro e w' ⟨rfl, rfl⟩
  go_wp2
  go_ret
  exact ⟨rfl, HB14.out⟩

theorem checkOrder_all (c : Chk) (v : Value) (k : Nat) (w : World) (hv : IsP w v c.l) (hf : ∀ p ∈ c.l, p.fits) (hk : k < 256) :
    Calls Try.prog 6 #[cval c v, .int .u8 (k : Int)] w fun e w' => e = .returned (.bool true) ∧ Below w.heap.size w w' := by
  obtain ⟨a, b, d, ps⟩ := c
  by_cases h : 60 < ps.length
  · exact checkOrder_long a b d ps v k w hv h
  · by_cases hq : cright ⟨a, b, d, ps⟩ = 0
    · by_cases h2 : ps.length < 2
      · exact checkOrder_few a b d ps v k w hv hf h2 hq
      · exact checkOrder_any a b d ps v k w hv hf (by omega) (by omega) hq hk
    · exact checkOrder_not a b d ps v k w hv (by omega) hq

end Go.Proofs.Ytdcdhcjjngjnjaa
