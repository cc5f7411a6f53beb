/- IndexOwn: the walk. -/
import Derived.Test.YtglmajbpcjmakaaLaw08
namespace Go.Proofs.Ytglmajbpcjmakaa
open Go.RowKit Go.Cor

/-- The positions in another order. -/
def turned (l : List Pos) (a i : Nat) : List Pos := (List.range i).map (fun j => pat l ((l.length - 1 - j + a) % l.length))
theorem turned_succ (l : List Pos) (a i : Nat) : turned l a (i + 1) = turned l a i ++ [pat l ((l.length - 1 - i + a) % l.length)] := by
  simp [turned, List.range_succ]
theorem length_turned (l : List Pos) (a i : Nat) : (turned l a i).length = i := by simp [turned]
theorem turned_mem {l : List Pos} {a : Nat} (q : Pos) : q ∈ turned l a l.length ↔ q ∈ l := by
  unfold turned
  rw [List.mem_map]
  constructor
  · rintro ⟨j, hj, rfl⟩
    rw [List.mem_range] at hj
    exact pat_mem (Nat.mod_lt _ (by omega))
  · intro h
    obtain ⟨i, hi⟩ := List.getElem?_of_mem h
    have hlt := (List.getElem?_eq_some_iff.1 hi).1
    obtain ⟨n, hn⟩ : ∃ n, l.length = n := ⟨_, rfl⟩
    rw [hn] at hlt ⊢
    refine ⟨(n - 1 - i + a) % n, List.mem_range.2 (Nat.mod_lt _ (by omega)), ?_⟩
    have hr : (n - 1 - i + a) % n < n := Nat.mod_lt _ (by omega)
    have hd := Nat.div_add_mod (n - 1 - i + a) n
    obtain ⟨r, hr'⟩ : ∃ r, (n - 1 - i + a) % n = r := ⟨_, rfl⟩
    obtain ⟨d, hd'⟩ : ∃ d, n * ((n - 1 - i + a) / n) = d := ⟨_, rfl⟩
    rw [hr'] at hr hd ⊢
    rw [hd'] at hd
    have e : n - 1 - r + a = i + d := by omega
    have h2 : (n - 1 - r + a) % n = i := by
      rw [e, ← hd', Nat.add_mul_mod_self_left, Nat.mod_eq_of_lt hlt]
    rw [h2]
    exact pat_of hi
theorem apart_pairwise {l : List Pos} (h : ∀ i, i < l.length → ∀ k, k < i → (pat l i).key ≠ (pat l k).key) : l.Pairwise (fun p q => p.key ≠ q.key) := by
  rw [List.pairwise_iff_getElem]
  intro i j hi hj hij e
  have h1 := h j hj i hij
  rw [pat_of (List.getElem?_eq_getElem hi), pat_of (List.getElem?_eq_getElem hj)] at h1
  exact h1 e.symm
theorem apart_inj {l : List Pos} (h : ∀ i, i < l.length → ∀ k, k < i → (pat l i).key ≠ (pat l k).key) : ∀ p ∈ l, ∀ q ∈ l, p.key = q.key → p = q := by
  intro p hp q hq e
  obtain ⟨i, hi⟩ := List.getElem?_of_mem hp
  obtain ⟨j, hj⟩ := List.getElem?_of_mem hq
  have hil := (List.getElem?_eq_some_iff.1 hi).1
  have hjl := (List.getElem?_eq_some_iff.1 hj).1
  by_cases h1 : i = j
  · subst h1
    rw [hi] at hj
    exact Option.some.inj hj
  · by_cases h2 : i < j
    · have := h j hjl i h2
      rw [pat_of hi, pat_of hj] at this
      exact absurd e.symm this
    · have := h i hil j (by omega)
      rw [pat_of hi, pat_of hj] at this
      exact absurd e this
theorem puts_turned {l : List Pos} (a : Nat) (h : ∀ i, i < l.length → ∀ k, k < i → (pat l i).key ≠ (pat l k).key) : puts [] (turned l a l.length) = puts [] l := by
  have hi := apart_inj h
  refine asc_ext (puts_asc Asc.nil _) (puts_asc Asc.nil _) fun q => ?_
  rw [mem_puts hi q, mem_puts (fun p hp q hq e => hi p ((turned_mem p).1 hp) q ((turned_mem q).1 hq) e) q, turned_mem]
theorem length_apart {l : List Pos} (h : ∀ i, i < l.length → ∀ k, k < i → (pat l i).key ≠ (pat l k).key) : (puts [] l).length = l.length := by
  have := length_puts_apart (s := []) Asc.nil (apart_pairwise h) (fun p _ q hq => by cases hq)
  simpa using this

theorem len_nil (w : World) : Calls Try.prog 14 #[.pointer none] w fun e w' => e = .returned (.tuple #[.int .i64 0, .int .i64 0]) ∧ Below w.heap.size w w' :=
  (len_any _ _ [] w .nil (by decide)).mono fun e w' h => ⟨h.1.trans rfl, h.2⟩

set_option maxRecDepth 100000 in
set_option maxHeartbeats 4000000 in
theorem indexOwn_all (v : Value) (l : List Pos) (a : Nat) (w : World) (hv : IsP w v l) (hf : ∀ p ∈ l, p.fits) (ha : a < 256) :
    Calls Try.prog 3 #[v, .int .u8 (a : Int)] w fun e w' => e = .returned (.bool true) ∧ Below w.heap.size w w' := by
  obtain ⟨N, hN⟩ : ∃ N, l.length = N := ⟨_, rfl⟩
  have hlen := fun W => len_P (P := Try.prog) hv hN 22 3 27 Try.underlying22 W
  have HV := Lib.hid hv
  have HN := Lib.hid hN
  clear hv hN
  by_cases hbig : 60 < N
  · have hbig' : (60 : Int) < (N : Int) := by omega
    go_enter Try.func3, Try.ntmps3
    go_wp2_with (go_at_call 5; refine (alive_any _).mono ?_; rintro e w1 ⟨rfl, hb1⟩)
    go_ret
    exact ⟨rfl, hb1⟩
  have hbig' : ¬ (60 : Int) < (N : Int) := by omega
  go_enter Try.func3, Try.ntmps3
  go_wp2_with fail
  refine (alive_any _).mono ?_
  rintro e w1 ⟨rfl, hb1⟩
  have HB1 := Lib.hid hb1
  have HP1 := Lib.hid (HV.out.mono hb1 (Nat.le_refl _))
  clear hb1
  go_wp2
  go_loopw [5] (fun c wr => ∃ i : Nat, i ≤ N ∧ c = .int .i64 i ∧ Hid (∀ x, x < i → ∀ y, y < x → (pat l x).key ≠ (pat l y).key) ∧ ∃ n, wr = w1.drewN n) (fun c _ => N - (intOf c).toNat)
  case atStart => exact ⟨0, Nat.zero_le _, rfl, Lib.hid (fun x hx => absurd hx (Nat.not_lt_zero x)), 0, rfl⟩
  case round =>
    obtain ⟨i, hiN, rfl, HI, n, rfl⟩ := hrel
    by_cases hlt : i < N
    · obtain ⟨p, hp⟩ : ∃ p, pat l i = p := ⟨_, rfl⟩
      obtain ⟨b, o, hidx, c0, _⟩ := indexAt_P HP1.out 22 27 Try.underlying22 Try.sizePosR i (by rw [HN.out]; omega)
      rw [hp] at c0
      go_wp2
      go_loopw [6] (fun c wr => ∃ k : Nat, k ≤ i ∧ c = .int .i64 k ∧ Hid (∀ y, y < k → p.key ≠ (pat l y).key) ∧ ∃ n, wr = w1.drewN n) (fun c _ => i - (intOf c).toNat)
      case atStart => exact ⟨0, Nat.zero_le _, rfl, Lib.hid (fun x hx => absurd hx (Nat.not_lt_zero x)), n, rfl⟩
      case round =>
        obtain ⟨k, hki, rfl, HJ, n2, rfl⟩ := hrel
        by_cases hlt2 : k < i
        · obtain ⟨q, hq⟩ : ∃ q, pat l k = q := ⟨_, rfl⟩
          obtain ⟨b2, o2, hidx2, d0, _⟩ := indexAt_P HP1.out 22 27 Try.underlying22 Try.sizePosR k (by rw [HN.out]; omega)
          rw [hq] at d0
          by_cases hk : p.key = q.key
          · have hb : ((p.key : Int) == (q.key : Int)) = true := by rw [beq_iff_eq]; omega
            clear hk hq hp
            go_wp2
            go_quiet (fail)
            go_wp2
            go_ret
            exact ⟨rfl, HB1.out.os, HB1.out.tape, HB1.out.output, HB1.out.size, HB1.out.block⟩
          · have hb : ((p.key : Int) == (q.key : Int)) = false := by rw [beq_eq_false_iff_ne]; omega
            have HJ2 := Lib.hid (show ∀ y, y < k + 1 → p.key ≠ (pat l y).key from fun y hy => by
              by_cases h : y < k
              · exact HJ.out y h
              · obtain rfl : y = k := by omega
                rw [hq]
                exact hk)
            clear hk hq hp
            go_wp2
            go_quiet (fail)
            go_wp2
            go_roundw
            case rel => exact ⟨k + 1, by omega, by go_num, HJ2, _, rfl⟩
            case measure => simp [intOf]; omega
        · obtain rfl : k = i := by omega
          have HI2 := Lib.hid (show ∀ x, x < k + 1 → ∀ y, y < x → (pat l x).key ≠ (pat l y).key from fun x hx => by
            by_cases h : x < k
            · exact HI.out x h
            · obtain rfl : x = k := by omega
              rw [hp]
              exact HJ.out)
          clear hp
          go_wp2
          go_roundw
          case rel => exact ⟨k + 1, by omega, by go_num, HI2, _, rfl⟩
          case measure => simp [intOf]; omega
    · obtain rfl : N = i := by omega
      have HAP := Lib.hid (show ∀ i, i < l.length → ∀ k, k < i → (pat l i).key ≠ (pat l k).key from by rw [HN.out]; exact HI.out)
      obtain ⟨w2, hw2⟩ : ∃ w2, w1.drewN n = w2 := ⟨_, rfl⟩
      have HP2 := Lib.hid (show IsP w2 v l from by rw [← hw2]; exact HP1.out)
      have HB2 := Lib.hid (show Below w.heap.size w w2 from by rw [← hw2]; exact ⟨HB1.out.os, HB1.out.tape, HB1.out.output, HB1.out.size, HB1.out.block⟩)
      rw [hw2]
      clear hw2 HP1 HB1 HI
      obtain ⟨m, hm⟩ : ∃ m, puts [] l = m := ⟨_, rfl⟩
      have HM := Lib.hid (show m.length = N from by rw [← hm, length_apart HAP.out, HN.out])
      have HTU := Lib.hid (show puts [] (turned l a N) = m from by rw [← hm, ← HN.out]; exact puts_turned a HAP.out)
      have HMM := Lib.hid hm
      clear hm
      go_wp2_with fail
      refine (of5_any _ l _ HP2.out (by rw [HN.out]; omega)).mono ?_
      rintro e w3 ⟨v3, rfl, h1, h2⟩
      have HP3 := Lib.hid (IsP.own (ps := l) h1 rfl)
      have HPl3 := Lib.hid (HP2.out.mono h2 (Nat.le_refl _))
      have HB3 := Lib.hid (HB2.out.trans (h2.mono HB2.out.size))
      clear h1 h2 HB2 HP2
      go_wp2_with fail
      refine (new_any _ l _ HP3.out (by rw [HN.out]; omega)).mono ?_
      rintro e w4 ⟨gx, rfl, h1, h2⟩
      rw [HMM.out] at h1
      have HX4 := Lib.hid h1
      have HPl4 := Lib.hid (HPl3.out.mono h2 (Nat.le_refl _))
      have HB4 := Lib.hid (HB3.out.trans (h2.mono HB3.out.size))
      clear h1 h2 HB3 HP3 HPl3
      go_wp2_with fail
      refine (new_any _ [] _ (IsP.nil _) (by decide)).mono ?_
      rintro e w5 ⟨gy, rfl, h1, h2⟩
      obtain ⟨By, hBy⟩ : ∃ By, w4.heap.size = By := ⟨_, rfl⟩
      rw [hBy] at h1 h2
      have HSY := Lib.hid hBy
      have HY5 := Lib.hid (show Own w5 By gy (puts [] (turned l a 0)) from h1)
      have hwB : w.heap.size ≤ By := by rw [← hBy]; exact HB4.out.size
      have HB5 := Lib.hid (HB4.out.trans (h2.mono hwB))
      have HX5 := Lib.hid (HX4.out.below h2 (by rw [HSY.out]; exact Nat.le_refl _))
      have HZ5 := Lib.hid (show By ≤ w5.heap.size from by rw [← hBy]; exact h2.size)
      have HF5 := Lib.hid (show Below By w4 w5 from h2)
      have HB4' := HB4
      clear h1 h2 HB4 hBy
      go_wp2_with fail
      go_loopw [9] (fun c wr => ∃ i : Nat, i ≤ N ∧ c = .int .i64 i ∧ Hid (Own wr By gy (puts [] (turned l a i))) ∧ Hid (Below By w4 wr)) (fun c _ => N - (intOf c).toNat)
      case atStart => exact ⟨0, Nat.zero_le _, rfl, HY5, HF5⟩
      case round =>
        obtain ⟨i, hiN, rfl, JY, JB⟩ := hrel
        have hwz : By ≤ wr.heap.size := by have := JB.out.size; rw [HSY.out] at this; exact this
        by_cases hlt : i < N
        · obtain ⟨J, hJ⟩ : ∃ J, (N - 1 - i + a) % N = J := ⟨_, rfl⟩
          have hJN : J < N := by rw [← hJ]; exact Nat.mod_lt _ (by omega)
          obtain ⟨p, hp⟩ : ∃ p, pat l J = p := ⟨_, rfl⟩
          obtain ⟨b, o, hidx, c0, c1, c2, c3, c4⟩ := indexAt_P (HPl4.out.mono JB.out (by rw [HSY.out]; exact Nat.le_refl _)) 22 27 Try.underlying22 Try.sizePosR J (by rw [HN.out]; omega)
          rw [hp] at c0 c1 c2 c3 c4
          have hJI : ((J : Nat) : Int) = ((N : Int) - 1 - (i : Int) + (a : Int)) % (N : Int) := by
            rw [← hJ, Int.natCast_emod]
            congr 1
            omega
          rw [hJI] at hidx
          have HT := Lib.hid (show puts [] (turned l a (i + 1)) = put (puts [] (turned l a i)) p from by rw [turned_succ, puts_snoc, HN.out, hJ, hp])
          have HL := Lib.hid (show (puts [] (turned l a i)).length < 4096 from by
            have := length_puts [] (turned l a i)
            rw [length_turned] at this
            simp at this
            omega)
          clear hJ hJN hp hJI
          go_wp2_with fail
          refine (put_own By gy _ p _ JY.out HL.out hwz).mono ?_
          rintro e w2 ⟨rfl, h1, h2⟩
          rw [← HT.out] at h1
          have H1 := Lib.hid h1
          have H2 := Lib.hid (JB.out.trans h2)
          clear h1 h2 c0 c1 c2 c3 c4 hidx
          go_wp2
          go_roundw
          case rel => exact ⟨i + 1, by omega, by go_num, H1, H2⟩
          case measure => simp [intOf]; omega
        · obtain rfl : N = i := by omega
          have HY := Lib.hid (show Own wr By gy m from by have := JY.out; rw [HTU.out] at this; exact this)
          have HX := Lib.hid (HX4.out.below JB.out (by rw [HSY.out]; exact Nat.le_refl _))
          have HXB := Lib.hid (show ∀ k v, At w4 gx v m → own gx v k → k < By from fun k v h hk => by rw [← HSY.out]; exact h.lt k hk)
          have HBr := Lib.hid (HB4'.out.trans (JB.out.mono hwB))
          have hwr : w.heap.size ≤ wr.heap.size := Nat.le_trans hwB hwz
          have hm60 : m.length ≤ 60 := by rw [HM.out]; omega
          obtain ⟨vx, hx⟩ := HX.out.ix
          have HXI := Lib.hid hx
          obtain ⟨vy, hy⟩ := HY.out.ix
          have HYI := Lib.hid hy
          clear hx hy JY HY5 HX5 HB5 HF5 HZ5 HX HY
          go_wp2_with fail
          refine (clone2_any _ vx m _ HXI.out (by omega)).mono ?_
          rintro e w6 ⟨gc, vc, rfl, h1, h2, h3⟩
          have HC6 := Lib.hid h1
          have HCO := Lib.hid h3
          have HB6 := Lib.hid h2
          have hs6 : wr.heap.size ≤ w6.heap.size := h2.size
          clear h1 h2 h3
          go_wp2_with fail
          refine (all_any _ vx m _ (HXI.out.below HB6.out (Nat.le_refl _)) (by omega)).mono ?_
          rintro e w7 ⟨v7, rfl, h1, h2⟩
          have HP7 := Lib.hid (IsP.own (ps := m) h1 rfl)
          have HF7 := Lib.hid h2
          have hs7 : w6.heap.size ≤ w7.heap.size := h2.size
          clear h1 h2
          go_wp2_with fail
          refine (to5_any v7 m _ HP7.out (by omega)).mono ?_
          rintro e w8 ⟨v8, rfl, h1, h2⟩
          have HW8 := Lib.hid (ownsRow_base h1 hs7)
          have HF8 := Lib.hid (HF7.out.trans (h2.mono hs7))
          have hs8 : w6.heap.size ≤ w8.heap.size := HF8.out.size
          clear h1 h2 HP7 HF7
          go_wp2_with fail
          refine (all_any _ vy m _ ((HYI.out.below HB6.out (Nat.le_refl _)).below HF8.out (Nat.le_refl _)) (by omega)).mono ?_
          rintro e w9 ⟨v9, rfl, h1, h2⟩
          have HP9 := Lib.hid (IsP.own (ps := m) h1 rfl)
          have HW9 := Lib.hid (ownsRow_below HW8.out h2 (Nat.le_refl _))
          have HF9 := Lib.hid (HF8.out.trans (h2.mono hs8))
          have hs9 : w6.heap.size ≤ w9.heap.size := HF9.out.size
          clear h1 h2 HW8 HF8
          go_wp2_with fail
          refine (to5_any v9 m _ HP9.out (by omega)).mono ?_
          rintro e wa ⟨va, rfl, h1, h2⟩
          have HPa := Lib.hid (IsP.own (ps := m) h1 rfl)
          have HWa := Lib.hid (ownsRow_below HW9.out h2 (Nat.le_refl _))
          have HFa := Lib.hid (HF9.out.trans (h2.mono hs9))
          clear h1 h2 HW9 HF9 HP9
          go_wp2_with fail
          refine (same5_any v8 va m m _ (IsP.own HWa.out rfl) HPa.out (by omega)).mono ?_
          rintro e wb ⟨rfl, nq, hwb⟩
          rw [decide_eq_true rfl]
          have HWb := Lib.hid (show wb.ownsRow w6.heap.size 27 5 v8 m.length (row pcells m) from by rw [hwb]; exact HWa.out)
          have HFb := Lib.hid (show Below w6.heap.size w6 wb from by rw [hwb]; exact ⟨HFa.out.os, HFa.out.tape, HFa.out.output, HFa.out.size, HFa.out.block⟩)
          clear hwb HWa HFa HPa
          have hlen8 := fun W => len_P (P := Try.prog) (IsP.own (ps := m) HWb.out rfl) HM.out 22 3 27 Try.underlying22 W
          go_wp2_with fail
          refine (put_any gc vc m ⟨a, 77, 0, 0, false⟩ _ (HC6.out.below HFb.out (Nat.le_refl _)) (by omega)).mono ?_
          rintro e wc ⟨rfl, vc2, h1, h2, h3⟩
          have HWc := Lib.hid (ownsRow_kept HWb.out h2 (fun k hk hs => by
            have q1 := (HWb.out.lt k hk).1
            have q2 := HC6.out.lt k hs
            omega))
          have HXc := Lib.hid (show Ix wc (.pointer (some ⟨gx, 0, none⟩)) vx m from by
            have q := (HXI.out.below HB6.out (Nat.le_refl _)).below HFb.out (Nat.le_refl _)
            have q0 := HXI.out
            cases q0 with
            | «at» g v l q0 =>
              cases q with
              | «at» g v l q => exact .at _ _ _ (q.kept h2 (fun k hk hs => by
                  have q1 := q0.lt k hk
                  have q2 := HCO.out k hs
                  omega)))
          have HBc := Lib.hid (show Below w.heap.size w wc from (((HBr.out.trans (HB6.out.mono hwr)).trans (HFb.out.mono (Nat.le_trans hwr hs6))).trans (h2.below (by have := HFb.out.size; omega) (fun k hk hs => by have := HCO.out k hs; omega))))
          clear h1 h2 h3 HWb HFb HC6 HCO HB6 HXI HYI hlen8
          go_wp2_with fail
          refine (all_any _ vx m _ HXc.out (by omega)).mono ?_
          rintro e wd ⟨vd, rfl, h1, h2⟩
          have HDd := Lib.hid h1
          have HFcd := Lib.hid h2
          have HXd := Lib.hid (HXc.out.below h2 (Nat.le_refl _))
          have HWd := Lib.hid ((IsP.own (ps := m) HWc.out rfl).mono h2 (Nat.le_refl _))
          have HBd := Lib.hid (HBc.out.trans (h2.mono HBc.out.size))
          have hlend := fun W => len_P (P := Try.prog) (IsP.own (ps := m) HDd.out rfl) HM.out 30 3 35 Try.underlying30 W
          clear h1 h2
          have hsd := HBd.out.size
          have hd0 := HDd.out.1
          obtain ⟨cs0, hcs0⟩ : ∃ cs0, row pcells m = cs0 := ⟨_, rfl⟩
          have hml := HM.out
          rw [hcs0, hml] at hd0
          have HD0 := Lib.hid (show wd.ownsRow wc.heap.size 35 5 vd N cs0 from by have := HDd.out; rw [hcs0, hml] at this; exact this)
          have HL0 := Lib.hid hd0
          obtain ⟨Bd, hBd⟩ : ∃ Bd, wc.heap.size = Bd := ⟨_, rfl⟩
          rw [hBd] at HD0
          have HXc' := Lib.hid (show Ix wc (.pointer (some ⟨gx, 0, none⟩)) vx m from HXc.out)
          have HWc' := Lib.hid (IsP.own (ps := m) HWc.out rfl)
          have HSD := Lib.hid hBd
          have hwBd : w.heap.size ≤ Bd := by rw [← hBd]; exact HBc.out.size
          have HFd := Lib.hid (show Below Bd wc wd from by rw [← hBd]; exact HFcd.out)
          clear hd0 hcs0 hml HDd HXd HWd HXc HWc hBd HFcd
          go_wp2_with fail
          go_loopw [13] (fun c wr => ∃ i : Nat, i ≤ N ∧ c = .int .i64 i ∧ Hid (∃ cs, wr.ownsRow Bd 35 5 vd N cs ∧ cs.length = N * 5) ∧ Hid (Below Bd wc wr)) (fun c _ => N - (intOf c).toNat)
          case atStart => exact ⟨0, Nat.zero_le _, rfl, Lib.hid ⟨cs0, HD0.out, HL0.out⟩, HFd⟩
          case round =>
            obtain ⟨i, hiN, rfl, JD, JB2⟩ := hrel
            by_cases hlt : i < N
            · obtain ⟨cs, jd1, jd2⟩ := JD.out
              have HJL := Lib.hid jd2
              obtain ⟨gd, hgd, hidx, hc, hfz, hst⟩ := indexAt_own (P := Try.prog) jd1 30 35 Try.underlying30 Try.sizePos i hlt
              have hgB := (jd1.lt gd hgd).1
              have hc1 := hc 1 (by decide)
              rw [List.getElem?_eq_getElem (by rw [jd2]; omega)] at hc1
              generalize cs[i * 5 + 1]'_ = u1 at hc1
              have HJ1 := Lib.hid (show (wr.setCell ⟨gd, i * 5 + 1, none⟩ (.int .i64 99)).ownsRow Bd 35 5 vd N (cs.set (i * 5 + 1) (.int .i64 99)) from hst _ _)
              have HJ2 := Lib.hid (JB2.out.setCell (p := ⟨gd, i * 5 + 1, none⟩) hgB (.int .i64 99))
              clear hc hst jd1 jd2 hgd JD
              go_wp2
              go_roundw
              case rel => exact ⟨i + 1, by omega, by go_num, Lib.hid ⟨_, HJ1.out, by rw [List.length_set]; exact HJL.out⟩, HJ2⟩
              case measure => simp [intOf]; omega
            · obtain rfl : N = i := by omega
              have HX := Lib.hid (HXc'.out.below JB2.out (by rw [HSD.out]; exact Nat.le_refl _))
              have HW := Lib.hid (HWc'.out.mono JB2.out (by rw [HSD.out]; exact Nat.le_refl _))
              have HB := Lib.hid (HBc.out.trans (JB2.out.mono hwBd))
              have hsz := HB.out.size
              clear JD JB2 HX4 HD0 HXc' HWc' HFd HBd HBc
              go_wp2_with fail
              refine (find_any _ _ [] 1 _ .nil (by decide)).mono ?_
              rintro e wf ⟨rfl, h1⟩
              rw [show fnd [] 1 = none from rfl, foundE_none]
              have HF1 := Lib.hid h1
              have hsf := h1.size
              have h2 := h1.trans ((Below.refl wf.heap.size wf).alloc (Nat.le_refl _) (.cells (pcells pzero).toArray 35) |>.mono hsf)
              clear h1
              have HF2 := Lib.hid h2
              clear h2
              obtain ⟨wg, hwg⟩ : ∃ wg, wf.alloc (.cells (pcells pzero).toArray 35) = wg := ⟨_, rfl⟩
              rw [hwg] at HF2
              go_wp2_with fail
              refine (len_nil _).mono ?_
              rintro e wh ⟨rfl, h1⟩
              have hwg' : wf.alloc (.cells #[.int .u64 (pzero.key : Int), .int .i64 pzero.off, .int .i64 pzero.len, .int .u32 (pzero.cookie : Int), .bool pzero.gone] 35) = wg := hwg
              rw [hwg'] at h1
              have HC1 := Lib.hid (HF2.out.trans (h1.mono HF2.out.size))
              clear h1 hwg hwg' HF2 HF1
              go_wp2_with fail
              refine (all_any _ vx m _ (HX.out.below HC1.out (Nat.le_refl _)) (by omega)).mono ?_
              rintro e w1a ⟨vz, rfl, h1, h2⟩
              have HPz := Lib.hid (IsP.own (ps := m) h1 rfl)
              have HC2 := Lib.hid (HC1.out.trans (h2.mono HC1.out.size))
              clear h1 h2 HC1
              go_wp2_with fail
              refine (to5_any vz m _ HPz.out (by omega)).mono ?_
              rintro e w2a ⟨vt, rfl, h1, h2⟩
              have HPt := Lib.hid (IsP.own (ps := m) h1 rfl)
              have HC3 := Lib.hid (HC2.out.trans (h2.mono HC2.out.size))
              clear h1 h2 HC2 HPz
              go_wp2_with fail
              refine (same5_any v8 vt m m _ (HW.out.mono HC3.out (Nat.le_refl _)) HPt.out (by omega)).mono ?_
              rintro e w3a ⟨rfl, nq2, hq2⟩
              rw [decide_eq_true rfl]
              have HC4 := Lib.hid (show Below wr.heap.size wr w3a from by rw [hq2]; exact ⟨HC3.out.os, HC3.out.tape, HC3.out.output, HC3.out.size, HC3.out.block⟩)
              clear hq2 HC3 HPt
              go_wp2_with (go_at_call 15; refine (code_code 6 _ (by decide) (by decide)).mono ?_; rintro e w4 ⟨rfl, rfl⟩)
              refine (put_nil pzero _).mono ?_
              rintro e w5a ⟨rfl, h1⟩
              have HC5 := Lib.hid (HC4.out.trans (h1.mono HC4.out.size))
              clear h1 HC4
              go_wp2_with (go_at_call 15; refine (code_code 11 _ (by decide) (by decide)).mono ?_; rintro e w4 ⟨rfl, rfl⟩)
              refine (all_any _ _ [] _ .nil (by decide)).mono ?_
              rintro e w6a ⟨vn, rfl, h1, h2⟩
              have hln := fun W => len_P (P := Try.prog) (IsP.own (ps := []) h1 rfl) (n := 0) rfl 30 3 35 Try.underlying30 W
              have HC6 := Lib.hid (HC5.out.trans (h2.mono HC5.out.size))
              clear h1 h2 HC5
              go_wp2_with fail
              refine (from_any _ _ [] 0 5 _ .nil (by decide)).mono ?_
              rintro e w7a ⟨vf, rfl, h1, h2⟩
              have hlf := fun W => len_P (P := Try.prog) (IsP.own (ps := []) (show w7a.ownsRow _ _ 5 vf 0 (row pcells []) from h1) rfl) (n := 0) rfl 30 3 35 Try.underlying30 W
              have HC7 := Lib.hid (HC6.out.trans (h2.mono HC6.out.size))
              clear h1 h2 HC6
              go_wp2_with fail
              refine (clone2_any _ _ [] _ .nil (by decide)).mono ?_
              rintro e w8a ⟨gz, vgz, rfl, h1, h2, h3⟩
              have HZ := Lib.hid h1
              have HC8 := Lib.hid (HC7.out.trans (h2.mono HC7.out.size))
              clear h1 h2 h3 HC7
              go_wp2_with fail
              refine (all_any _ vgz [] _ (.at gz vgz [] HZ.out) (by decide)).mono ?_
              rintro e w9a ⟨ve, rfl, h1, h2⟩
              have hle := fun W => len_P (P := Try.prog) (IsP.own (ps := []) h1 rfl) (n := 0) rfl 30 3 35 Try.underlying30 W
              have HC9 := Lib.hid (HC8.out.trans (h2.mono HC8.out.size))
              clear h1 h2 HC8
              go_wp2
              go_ret
              exact ⟨rfl, HB.out.trans (HC9.out.mono hsz)⟩

end Go.Proofs.Ytglmajbpcjmakaa
