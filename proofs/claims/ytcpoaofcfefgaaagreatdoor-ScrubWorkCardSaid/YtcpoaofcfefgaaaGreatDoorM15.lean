/- Swk, Wf, OpenX, Open10. -/
import Derived.Test.YtcpoaofcfefgaaaGreatDoorM9
import Derived.Test.YtcpoaofcfefgaaaGreatDoorM14
import Derived.Test.YtcpoaofcfefgaaaGreatDoorM1
import Derived.Lib.SmallJoins
import Derived.ProofKit
import Derived.Test.YtcpoaofcfefgaaaGreatDoorChecked
import Derived.Test.YtcpoaofcfefgaaaGreatDoorM13

section
namespace Go.Proofs.YtcpoaofcfefgaaaGreatDoor
open Go.RowKit Go.Cor

set_option maxRecDepth 100000 in
set_option maxHeartbeats 4000000 in
theorem sall_ok (g p k : Nat) (S : Nat → Prop) (d : Dsk) (s : Vst) (w : World) (h : Vready w g p S d k s) :
    Calls Tryz.prog 11 #[.pointer (some ⟨g, 0, none⟩)] w fun e w' => ∃ q, e = .returned (.tuple #[.slice (some ⟨q, 0, none⟩) 0 0, .nilIface]) ∧ Below w.heap.size w w' := by
  have HH := Lib.hid h
  clear h
  go_enter Tryz.func11, Tryz.ntmps11
  go_wp2_with fail
  refine (snew_ok g w).mono ?_
  rintro e w1 ⟨rfl, hx1, hb1⟩
  have HR1 := Lib.hid (HH.out.below hb1)
  have HNS := Lib.hid (show ¬ S w.heap.size from fun e => by have := HH.out.vl.lt _ e; omega)
  have HX1 := Lib.hid hx1
  have HB1 := Lib.hid hb1
  clear hx1 hb1
  go_wp2_with fail
  refine (sstep_ok w.heap.size g p k S d s 9223372036854775807 w1 HR1.out HX1.out HNS.out (by decide) (by decide)).mono ?_
  rintro e w2 ⟨D, nx, rfl, hx2, hk2⟩
  have HX2 := Lib.hid hx2
  have HB2 := Lib.hid (HB1.out.trans (hk2.below HB1.out.size (fun j hj e => by omega)))
  clear hx2 hk2
  go_wp2_with fail
  refine (sbad_any w.heap.size g nx _ D w2 HX2.out).mono ?_
  rintro e w3 ⟨rfl, hb3⟩
  have HB3 := Lib.hid (HB2.out.trans (hb3.mono HB2.out.size))
  clear hb3
  go_wp2
  exact bodyPost_ret (v := .tuple #[.slice (some ⟨w2.heap.size, 0, none⟩) 0 0, .nilIface]) (by simp [results, Tryz.results11, go_sem]) rfl ⟨_, rfl, HB3.out⟩

set_option maxRecDepth 100000 in
set_option maxHeartbeats 4000000 in
theorem alive12 (w : World) :
    Calls Tryz.prog 4 #[] w fun e w' => e = .returned (.bool true) ∧ Below w.heap.size w w' := by
  have HM := Lib.hid (made_any (.slice none 0 0) [] w ⟨IsX.nil _ _, fun x hx => by cases hx⟩ (by decide) (fun x hx => by cases hx) (fun x hx => by cases hx))
  go_enter Tryz.func4, Tryz.ntmps4
  go_wp2_with fail
  refine HM.out.mono ?_
  rintro e w1 ⟨g, p, S, d, k, s, lv, dv, ps, rfl, hr, hdoc, hb, hS, hm⟩
  obtain ⟨lx, lc, rfl, _, _⟩ := IsX.slice hdoc.l
  obtain ⟨dx, dc, rfl, _, _⟩ := IsX.slice hdoc.d.1
  obtain ⟨I, hI⟩ : ∃ I, s.idx.length = I := ⟨_, rfl⟩
  obtain ⟨N, hN⟩ : ∃ N, ps.length = N := ⟨_, rfl⟩
  rw [hI, hN]
  have HR := Lib.hid hr
  have HB := Lib.hid hb
  clear hr hdoc hb hS hm hI hN HM
  go_wp2_with fail
  have HB2 := Lib.hid (HB.out.alloc HB.out.size (.cells #[.int .i64 (s.num : Int), .int .i64 (s.most : Int), .int .i64 (s.epoch : Int), .int .i64 (s.size : Int), .bool s.shut, .slice lx I lc, .slice dx N dc] 30))
  refine (sall_ok g p k S d s _ (HR.out.below (below_alloc w1 _))).mono ?_
  rintro e w3 ⟨q, rfl, hb3⟩
  have HB3 := Lib.hid (HB2.out.trans (hb3.mono HB2.out.size))
  clear hb3
  go_wp2_with fail
  refine (snew_nil _).mono ?_
  rintro e w4 ⟨rfl, rfl⟩
  go_wp2_with fail
  refine (code_nil _).mono ?_
  rintro e w4 ⟨rfl, rfl⟩
  go_wp2_with fail
  refine (code_code 15 _ (by decide) (by decide)).mono ?_
  rintro e w4 ⟨rfl, rfl⟩
  go_wp2
  go_ret
  exact ⟨rfl, HB3.out⟩

theorem far_long (v : Value) (l : List A9v) (w : World) (h : IsA w v l) (hl : 60 < l.length) :
    Calls Tryz.prog 5 #[v] w fun e w' => e = .returned (.bool true) ∧ w = w' := by
  have hlen := fun W => len_X (P := Tryz.prog) h.1 22 3 _ Tryz.underlying22 W
  obtain ⟨N, hN⟩ : ∃ N, l.length = N := ⟨_, rfl⟩
  rw [hN] at hlen hl
  have h60' : (60 : Int) < (N : Int) := by omega
  clear h hN hl
  go_enter Tryz.func5, Tryz.ntmps5
  go_wp2
  go_ret
  exact ⟨rfl, rfl⟩
theorem far_few {l : List A9v} (h : farA (l.map (·.1)) = false) : l.length ≤ 60 ∧ ∀ x ∈ l, x.1.n.data.length ≤ 300 := by
  unfold farA at h
  rw [Bool.or_eq_false_iff] at h
  refine ⟨by have := h.1; simpa using this, fun x hx => ?_⟩
  have h2 := h.2
  rw [List.any_eq_false] at h2
  have := h2 x.1 (List.mem_map.2 ⟨x, hx, rfl⟩)
  simpa using this

/-- What the loop asks of a position: at its own place, and eight bytes behind it. -/
structure Twos (g p k : Nat) (S : Nat → Prop) (d : Dsk) (s : Vst) (q : Pos) (o8 : Int) : Prop where
  own : ∀ wx, Vready wx g p S d k s → Calls Tryz.prog 12 #[.pointer (some ⟨g, 0, none⟩), Q.pval q] wx fun e w' => e = .returned .nilIface ∧ Below wx.heap.size wx w'
  beside : ∃ c : Nat, 1 ≤ c ∧ c ≤ 5 ∧ ∀ wx, Vready wx g p S d k s → Calls Tryz.prog 12 #[.pointer (some ⟨g, 0, none⟩), Q.pval ⟨q.key, o8, q.len, q.cookie, q.gone⟩] wx fun e w' => ∃ A, e = .returned (.iface 76 (.pointer (some ⟨A, 0, none⟩))) ∧ w'.cell? ⟨A, 2, none⟩ = some (ercode c) ∧ Below wx.heap.size wx w'
theorem Vready.twos {w : World} {g p k : Nat} {S : Nat → Prop} {d : Dsk} {s : Vst} (h : Vready w g p S d k s) {i : Nat} (hi : i < s.idx.length) : ∃ o8 : Int, IntKind.i64.wrap ((pat s.idx i).off + 8) = o8 ∧ Twos g p k S d s (pat s.idx i) o8 := by
  obtain ⟨b, hv, hb16, hat⟩ := h.at
  obtain ⟨n, off, hq, _, h4, ho, h0, h8⟩ := hat _ (pat_mem hi)
  rw [hq]
  refine ⟨((off + 8 : Nat) : Int), by show IntKind.i64.wrap ((off : Int) + 8) = _; rw [IntWalk.i64_in _ (by omega)]; omega, fun wx hx => look_ok n off b g p k S d s wx hx hv (by omega) hb16 h4 h0, misN b n (off + 8), by omega, misN_top _ _ _, fun wx hx => ?_⟩
  exact look_bad n (off + 8) b g p k S d s wx hx hv ho hb16 h4 h8

set_option maxRecDepth 100000 in
set_option maxHeartbeats 4000000 in
theorem scrubWork_all (v : Value) (l : List A9v) (n : Int) (w : World) (h : IsA w v l) (hf : ∀ x ∈ l, x.1.n.fits) (hn9 : n ≤ 9223372036854775807) :
    Calls Tryz.prog 3 #[v, .int .i64 n] w fun e w' => e = .returned (.bool true) ∧ Below w.heap.size w w' := by
  have HA := Lib.hid (alive12 w)
  have HH := Lib.hid h
  have HF := Lib.hid hf
  by_cases h60 : 60 < l.length
  · have HFA := Lib.hid (fun wx (hb : Below w.heap.size w wx) => far_long v l wx (HH.out.mono hb (Nat.le_refl _)) h60)
    clear h hf h60
    go_enter Tryz.func3, Tryz.ntmps3
    go_wp2_with fail
    refine HA.out.mono ?_
    rintro e w1 ⟨rfl, hb⟩
    have HB := Lib.hid hb
    clear hb
    go_wp2_with fail
    refine (HFA.out _ HB.out).mono ?_
    rintro e w2 ⟨rfl, rfl⟩
    go_wp2
    go_ret
    exact ⟨rfl, HB.out⟩
  · have HFA := Lib.hid (fun wx (hb : Below w.heap.size w wx) => far_any v l wx (HH.out.mono hb (Nat.le_refl _)) (by omega))
    cases hr : farA (l.map (·.1)) with
    | true =>
      rw [hr] at HFA
      clear hr h hf h60
      go_enter Tryz.func3, Tryz.ntmps3
      go_wp2_with fail
      refine HA.out.mono ?_
      rintro e w1 ⟨rfl, hb⟩
      have HB := Lib.hid hb
      clear hb
      go_wp2_with fail
      refine (HFA.out _ HB.out).mono ?_
      rintro e w2 ⟨rfl, rfl⟩
      go_wp2
      go_ret
      exact ⟨rfl, HB.out⟩
    | false =>
      have HM := Lib.hid (fun wx (hb : Below w.heap.size w wx) => made_any v l wx (HH.out.mono hb (Nat.le_refl _)) (far_few hr).1 (far_few hr).2 HF.out)
      rw [hr] at HFA
      clear hr h hf h60
      go_enter Tryz.func3, Tryz.ntmps3
      go_wp2_with fail
      refine HA.out.mono ?_
      rintro e w1 ⟨rfl, hb⟩
      have HB := Lib.hid hb
      clear hb
      go_wp2_with fail
      refine (HFA.out _ HB.out).mono ?_
      rintro e w1' ⟨rfl, rfl⟩
      go_wp2_with fail
      refine (HM.out _ HB.out).mono ?_
      rintro e w2 ⟨g, p, S, d, k, s, lv, dv, ps, rfl, hr, hdoc, hb, hS, hm⟩
      obtain ⟨lx, lc, rfl, _, _⟩ := IsX.slice hdoc.l
      obtain ⟨dx, dc, rfl, _, _⟩ := IsX.slice hdoc.d.1
      obtain ⟨I, hI⟩ : ∃ I, s.idx.length = I := ⟨_, rfl⟩
      obtain ⟨N, hN⟩ : ∃ N, ps.length = N := ⟨_, rfl⟩
      have hI4 : I ≤ 4096 := by have := s.idx_len; have := hr.ok.few; omega
      rw [hI, hN] at hdoc ⊢
      have HR := Lib.hid hr
      have HD := Lib.hid hdoc
      have HS := Lib.hid hS
      have HB2 := Lib.hid (HB.out.trans (hb.mono HB.out.size))
      have HI := Lib.hid hI
      clear hr hdoc hb hS hm hI hN HM HFA HA HB
      go_wp2_with fail
      obtain ⟨w3, hw3⟩ : ∃ w3, w2.alloc (.cells #[.int .i64 (s.num : Int), .int .i64 (s.most : Int), .int .i64 (s.epoch : Int), .int .i64 (s.size : Int), .bool s.shut, .slice lx I lc, .slice dx N dc] 30) = w3 := ⟨_, rfl⟩
      obtain ⟨B, hBq⟩ : ∃ B, w2.heap.size = B := ⟨_, rfl⟩
      have hb3 := below_alloc w2 (.cells #[.int .i64 (s.num : Int), .int .i64 (s.most : Int), .int .i64 (s.epoch : Int), .int .i64 (s.size : Int), .bool s.shut, .slice lx I lc, .slice dx N dc] 30)
      have HR3 := Lib.hid (HR.out.below hb3)
      have HD3 := Lib.hid (HD.out.below hb3)
      have HB3 := Lib.hid (HB2.out.alloc HB2.out.size (.cells #[.int .i64 (s.num : Int), .int .i64 (s.most : Int), .int .i64 (s.epoch : Int), .int .i64 (s.size : Int), .bool s.shut, .slice lx I lc, .slice dx N dc] 30))
      have HV3 := Lib.hid (Blk.new w2 #[.int .i64 (s.num : Int), .int .i64 (s.most : Int), .int .i64 (s.epoch : Int), .int .i64 (s.size : Int), .bool s.shut, .slice lx I lc, .slice dx N dc] 30)
      rw [hw3] at HR3 HD3 HB3 HV3
      rw [hBq] at HV3
      try rw [hw3]
      try rw [hBq]
      clear hw3 hBq hb3 HR HD HB2
      refine (snew_ok g w3).mono ?_
      rintro e w4 ⟨rfl, hx4, hb4⟩
      obtain ⟨x, hxq⟩ : ∃ x, w3.heap.size = x := ⟨_, rfl⟩
      have HR4 := Lib.hid (HR3.out.below hb4)
      have HD4 := Lib.hid (HD3.out.kept (S' := fun b => S b ∨ b = x) (Kept.of_below hb4 (Nat.le_refl _)) (fun b hb => hb.elim .inl (fun e => .inr (by omega))))
      have HB4 := Lib.hid (HB3.out.trans (hb4.mono HB3.out.size))
      have HV4 := Lib.hid (HV3.out.below hb4 HV3.out.lt)
      have HNS := Lib.hid (show ¬ S x from fun e => by have := HR3.out.vl.lt _ e; omega)
      have HNB := Lib.hid (show ¬ B = x from fun e => by have := HV3.out.lt; omega)
      have HXW := Lib.hid (show w.heap.size ≤ x by have := HB3.out.size; omega)
      rw [hxq] at hx4 ⊢
      have HX4 := Lib.hid hx4
      clear hx4 hb4 hxq HR3 HD3 HB3 HV3
      by_cases hn1 : n < 1
      · go_wp2_with fail
        refine (sstep_arg x g 0 0 n w4 HX4.out hn1).mono ?_
        rintro e w5 ⟨rfl, rfl⟩
        go_wp2_with fail
        refine (code_code 1 _ (by decide) (by decide)).mono ?_
        rintro e w5 ⟨rfl, rfl⟩
        go_wp2_with fail
        refine (sseen_any x g 0 0 false _ HX4.out).mono ?_
        rintro e w5 ⟨rfl, rfl⟩
        go_wp2
        go_ret
        exact ⟨rfl, HB4.out⟩
      · go_wp2_with fail
        refine (sstep_ok x g p k S d s n w4 HR4.out HX4.out HNS.out (by omega) hn9).mono ?_
        rintro e w5 ⟨D, nx, rfl, hx5, hk5⟩
        obtain ⟨KK, hK⟩ : ∃ KK, min n.toNat s.idx.length = KK := ⟨_, rfl⟩
        rw [hK] at hx5
        have HKM := Lib.hid (show (if (I : Int) < n then (I : Int) else n) = (KK : Int) by rw [← hK, HI.out]; split <;> omega)
        have HX5 := Lib.hid hx5
        have HR5 := Lib.hid (HR4.out.kept hk5 (fun j hj e => HNS.out (e ▸ hj)))
        have HD5 := Lib.hid (HD4.out.kept (S' := fun b => S b ∨ b = x) (hk5.mono (fun j _ e => .inr e)) (fun b hb => .inl hb))
        have HV5 := Lib.hid (HV4.out.kept hk5 HNB.out)
        have HB5 := Lib.hid (HB4.out.trans (hk5.below HB4.out.size (fun j hj e => by have := HXW.out; omega)))
        clear hx5 hk5 hK HR4 HD4 HV4 HB4 HX4
        go_wp2_with fail
        refine (sall_ok g p k S d s w5 HR5.out).mono ?_
        rintro e w6 ⟨qa, rfl, hb6⟩
        have HX6 := Lib.hid (HX5.out.below hb6 HX5.out.lt)
        have HR6 := Lib.hid (HR5.out.below hb6)
        have HD6 := Lib.hid (HD5.out.below hb6)
        have HV6 := Lib.hid (HV5.out.below hb6 HV5.out.lt)
        have HB6 := Lib.hid (HB5.out.trans (hb6.mono HB5.out.size))
        have hlB : B < w6.heap.size := HV6.out.lt
        clear hb6 HX5 HR5 HD5 HV5 HB5
        go_wp2_with fail
        go_loopw [15] (fun c wr => ∃ i : Nat, i ≤ I ∧ c = .int .i64 (i : Int) ∧ Hid (Below w6.heap.size w6 wr)) (fun c _ => (I - intOf c).toNat)
        case atStart => exact ⟨0, Nat.zero_le _, rfl, Lib.hid (Below.refl _ _)⟩
        case round =>
          obtain ⟨i, hiI, rfl, HW⟩ := hrel
          have v5 := (HV6.out.below HW.out HV6.out.lt).cell 5 rfl
          by_cases hi : i < I
          · obtain ⟨b, o, hidx, hp⟩ := Q.indexAt_P (P := Tryz.prog) (HD6.out.l.mono HW.out (Nat.le_refl _)) 27 50 Tryz.underlying27 Tryz.sizePs5 i (by rw [HI.out]; exact hi)
            obtain ⟨o8, ho8, ht⟩ := HR6.out.twos (i := i) (by rw [HI.out]; exact hi)
            obtain ⟨⟨pk, po, pl, pc, pg⟩, hpp⟩ : ∃ p, pat s.idx i = p := ⟨_, rfl⟩
            rw [hpp] at hp ho8 ht
            dsimp only at ho8
            obtain ⟨hown, cc, hc1, hc5, hbes⟩ := ht
            dsimp only at hown hbes
            have hcs := hp
            obtain ⟨c0, c1, c2, c3, c4⟩ := hcs
            dsimp only at c0 c1 c2 c3 c4
            have HP := Lib.hid hp
            have HOWN := Lib.hid hown
            have HBES := Lib.hid hbes
            have HC5 := Lib.hid (show (cc : Int) ≤ 17 by omega)
            have HC1 := Lib.hid (show 1 ≤ (cc : Int) by omega)
            have hc0 : ((cc : Int) == 0) = false := by simp; omega
            have hc0' : ¬ (cc : Int) = 0 := by omega
            have e1 : IntKind.i64.wrap ((i : Int) + 1) = (i : Int) + 1 := IntWalk.i64_in _ (by omega)
            clear hpp hown hbes hp hc1 hc5
            go_wp2_with fail
            refine (HOWN.out _ (HR6.out.below HW.out)).mono ?_
            rintro e w7 ⟨rfl, hb7⟩
            have HW7 := Lib.hid (HW.out.trans (hb7.mono HW.out.size))
            have HQ7 := Lib.hid (show w7.cell? ⟨b, o, none⟩ = some (.int .u64 (pk : Int)) ∧ w7.cell? ⟨b, o + 1, none⟩ = some (.int .i64 po) ∧ w7.cell? ⟨b, o + 2, none⟩ = some (.int .i64 pl) ∧ w7.cell? ⟨b, o + 3, none⟩ = some (.int .u32 (pc : Int)) ∧ w7.cell? ⟨b, o + 4, none⟩ = some (.bool pg) by
              have hk := Kept.of_below (S := fun _ => False) hb7 (Nat.le_refl _)
              exact ⟨hk.cell c0 (fun h => h), hk.cell c1 (fun h => h), hk.cell c2 (fun h => h), hk.cell c3 (fun h => h), hk.cell c4 (fun h => h)⟩)
            clear c0 c1 c2 c3 c4 v5 hb7 HP
            go_wp2_with fail
            refine (code_nil _).mono ?_
            rintro e w8 ⟨rfl, rfl⟩
            obtain ⟨c0, c1, c2, c3, c4⟩ := HQ7.out
            have v5 := (HV6.out.below HW7.out HV6.out.lt).cell 5 rfl
            have hb8 := below_alloc w7 (.cells #[.int .u64 (pk : Int), .int .i64 o8, .int .i64 pl, .int .u32 (pc : Int), .bool pg] 49)
            have HW8 := Lib.hid (HW7.out.trans (hb8.mono HW7.out.size))
            clear hb8
            go_upto_region 20 with fail
            clear c0 c1 c2 c3 c4 v5 ho8
            go_wp2_with fail
            refine (HBES.out _ (HR6.out.below HW8.out)).mono ?_
            rintro e w9 ⟨A, rfl, hcl, hb9⟩
            have HCL := Lib.hid hcl
            have HW9 := Lib.hid (HW8.out.trans (hb9.mono HW8.out.size))
            clear hcl hb9
            go_wp2_with fail
            refine (code_at A (cc : Int) _ HCL.out HC1.out HC5.out).mono ?_
            rintro e w10 ⟨rfl, rfl⟩
            go_wp2
            go_roundw
            case rel => exact ⟨i + 1, by omega, by simp, HW9⟩
            case measure => simp [intOf] <;> omega
          · obtain rfl : I = i := by omega
            have HXZ := Lib.hid ((HX6.out.below HW.out HX6.out.lt).drew)
            have HBZ := Lib.hid ((HV6.out.below HW.out HV6.out.lt).drew)
            have HBW := Lib.hid (HB6.out.trans (HW.out.mono HB6.out.size))
            have hmin : (if (I : Int) < n then (I : Int) else n) = (KK : Int) := HKM.out
            go_upto_region 22 with fail
            refine wp_region_held_drew (S := (fun wx => wx.cell? ⟨B, 5, none⟩ = some (.slice lx I lc))) (by kernel_rfl) (HBZ.out.cell 5 rfl) (fun hHeld => ?_)
            refine wpAnyH_take (i := 0) (v := ?_) rfl (by kernel_rfl) (by kernel_rfl) (by kernel_rfl) (fun _ _ _ h => h) (Or.inl ⟨by rfl, ?_⟩) (by assumption) ?_
            rotate_left 1
            · intro w hSw
              (try dsimp only at hSw)
              go_simp
              all_goals (with_reducible rfl)
            try simp only [Act.put, List.getElem_toArray, List.getElem_cons_zero, List.getElem_cons_succ, List.setIfInBounds_toArray, List.set_cons_zero, List.set_cons_succ]
            refine wpAnyH_take (i := 2) (v := ?_) rfl (by kernel_rfl) (by kernel_rfl) (by kernel_rfl) (fun _ _ _ h => h) (Or.inl ⟨by rfl, ?_⟩) (by assumption) ?_
            rotate_left 1
            · intro w hSw
              (try dsimp only at hSw)
              go_simp
              all_goals (with_reducible rfl)
            try simp only [Act.put, List.getElem_toArray, List.getElem_cons_zero, List.getElem_cons_succ, List.setIfInBounds_toArray, List.set_cons_zero, List.set_cons_succ]
            refine wpAnyH_ready (rs := [1]) (by kernel_rfl) (by simp) ?_
            refine AllReadyH.cons rfl (fun K hK => ?_) AllReadyH.nil
            go_simp
            refine (code_nil _).mono ?_
            rintro e q0 ⟨rfl, rfl⟩
            refine hK.out _ _ (HBZ.out.cell 5 rfl) (fun hHeld => ?_)
            clear hK K
            try simp only [Act.put, List.getElem_toArray, List.getElem_cons_zero, List.getElem_cons_succ, List.setIfInBounds_toArray, List.set_cons_zero, List.set_cons_succ]
            refine wpAnyH_ready (rs := [3]) (by kernel_rfl) (by simp) ?_
            refine AllReadyH.cons rfl (fun K hK => ?_) AllReadyH.nil
            go_simp
            refine (code_nil _).mono ?_
            rintro e q0 ⟨rfl, rfl⟩
            refine hK.out _ _ (HBZ.out.cell 5 rfl) (fun hHeld => ?_)
            clear hK K
            try simp only [Act.put, List.getElem_toArray, List.getElem_cons_zero, List.getElem_cons_succ, List.setIfInBounds_toArray, List.set_cons_zero, List.set_cons_succ]
            refine wpAnyH_take (i := 4) (v := ?_) rfl (by kernel_rfl) (by kernel_rfl) (by kernel_rfl) (fun _ _ _ h => h) (Or.inl ⟨by rfl, ?_⟩) (by assumption) ?_
            rotate_left 1
            · intro w hSw
              (try dsimp only at hSw)
              go_simp
              all_goals (with_reducible rfl)
            try simp only [Act.put, List.getElem_toArray, List.getElem_cons_zero, List.getElem_cons_succ, List.setIfInBounds_toArray, List.set_cons_zero, List.set_cons_succ]
            refine wpAnyH_take (i := 5) (v := ?_) rfl (by kernel_rfl) (by kernel_rfl) (by kernel_rfl) (fun _ _ _ h => h) (Or.inl ⟨by rfl, ?_⟩) (by assumption) ?_
            rotate_left 1
            · intro w hSw
              (try dsimp only at hSw)
              go_simp
              all_goals (with_reducible rfl)
            try simp only [Act.put, List.getElem_toArray, List.getElem_cons_zero, List.getElem_cons_succ, List.setIfInBounds_toArray, List.set_cons_zero, List.set_cons_succ]
            refine wpAnyH_take (i := 6) (v := ?_) rfl (by kernel_rfl) (by kernel_rfl) (by kernel_rfl) (fun _ _ _ h => h) (Or.inl ⟨by rfl, ?_⟩) (by assumption) ?_
            rotate_left 1
            · intro w hSw
              (try dsimp only at hSw)
              go_simp
              all_goals (with_reducible rfl)
            try simp only [Act.put, List.getElem_toArray, List.getElem_cons_zero, List.getElem_cons_succ, List.setIfInBounds_toArray, List.set_cons_zero, List.set_cons_succ]
            refine wpAnyH_take (i := 7) (v := ?_) rfl (by kernel_rfl) (by kernel_rfl) (by kernel_rfl) (fun _ _ _ h => h) (Or.inl ⟨by rfl, ?_⟩) (by assumption) ?_
            rotate_left 1
            · intro w hSw
              (try dsimp only at hSw)
              go_simp
              all_goals (with_reducible rfl)
            try simp only [Act.put, List.getElem_toArray, List.getElem_cons_zero, List.getElem_cons_succ, List.setIfInBounds_toArray, List.set_cons_zero, List.set_cons_succ]
            refine wpAnyH_take (i := 8) (v := ?_) rfl (by kernel_rfl) (by kernel_rfl) (by kernel_rfl) (fun _ _ _ h => h) (Or.inl ⟨by rfl, ?_⟩) (by assumption) ?_
            rotate_left 1
            · intro w hSw
              (try dsimp only at hSw)
              go_simp
              all_goals (with_reducible rfl)
            try simp only [Act.put, List.getElem_toArray, List.getElem_cons_zero, List.getElem_cons_succ, List.setIfInBounds_toArray, List.set_cons_zero, List.set_cons_succ]
            refine wpAnyH_take (i := 9) (v := ?_) rfl (by kernel_rfl) (by kernel_rfl) (by kernel_rfl) (fun _ _ _ h => h) (Or.inl ⟨by rfl, ?_⟩) (by assumption) ?_
            rotate_left 1
            · intro w hSw
              (try dsimp only at hSw)
              go_simp
              all_goals (with_reducible rfl)
            try simp only [Act.put, List.getElem_toArray, List.getElem_cons_zero, List.getElem_cons_succ, List.setIfInBounds_toArray, List.set_cons_zero, List.set_cons_succ]
            refine wpAnyH_ready (rs := [10]) (by kernel_rfl) (by simp) ?_
            refine AllReadyH.cons rfl (fun K hK => ?_) AllReadyH.nil
            go_simp
            refine (sbad_any x g nx KK D _ HXZ.out).mono ?_
            rintro e q1 ⟨rfl, hbq⟩
            have HB1 := Lib.hid ((Below.refl wr.heap.size wr).drew.trans hbq)
            have HX1 := Lib.hid (HXZ.out.below hbq HXZ.out.lt)
            have HS1 := Lib.hid ((HBZ.out.below hbq HBZ.out.lt).cell 5 rfl)
            clear hbq
            refine hK.out _ _ (HS1.out) (fun hHeld => ?_)
            clear hK K
            try simp only [Act.put, List.getElem_toArray, List.getElem_cons_zero, List.getElem_cons_succ, List.setIfInBounds_toArray, List.set_cons_zero, List.set_cons_succ]
            refine wpAnyH_take (i := 11) (v := ?_) rfl (by kernel_rfl) (by kernel_rfl) (by kernel_rfl) (fun _ _ _ h => h) (Or.inl ⟨by rfl, ?_⟩) (by assumption) ?_
            rotate_left 1
            · intro w hSw
              (try dsimp only at hSw)
              go_simp
              all_goals (with_reducible rfl)
            try simp only [Act.put, List.getElem_toArray, List.getElem_cons_zero, List.getElem_cons_succ, List.setIfInBounds_toArray, List.set_cons_zero, List.set_cons_succ]
            refine wpAnyH_take (i := 12) (v := ?_) rfl (by kernel_rfl) (by kernel_rfl) (by kernel_rfl) (fun _ _ _ h => h) (Or.inl ⟨by rfl, ?_⟩) (by assumption) ?_
            rotate_left 1
            · intro w hSw
              (try dsimp only at hSw)
              go_simp
              all_goals (with_reducible rfl)
            try simp only [Act.put, List.getElem_toArray, List.getElem_cons_zero, List.getElem_cons_succ, List.setIfInBounds_toArray, List.set_cons_zero, List.set_cons_succ]
            refine wpAnyH_take (i := 13) (v := ?_) rfl (by kernel_rfl) (by kernel_rfl) (by kernel_rfl) (fun _ _ _ h => h) (Or.inl ⟨by rfl, ?_⟩) (by assumption) ?_
            rotate_left 1
            · intro w hSw
              (try dsimp only at hSw)
              go_simp
              all_goals (with_reducible rfl)
            try simp only [Act.put, List.getElem_toArray, List.getElem_cons_zero, List.getElem_cons_succ, List.setIfInBounds_toArray, List.set_cons_zero, List.set_cons_succ]
            refine wpAnyH_take (i := 14) (v := ?_) rfl (by kernel_rfl) (by kernel_rfl) (by kernel_rfl) (fun _ _ _ h => h) (Or.inl ⟨by rfl, ?_⟩) (by assumption) ?_
            rotate_left 1
            · intro w hSw
              (try dsimp only at hSw)
              go_simp
              all_goals (with_reducible rfl)
            try simp only [Act.put, List.getElem_toArray, List.getElem_cons_zero, List.getElem_cons_succ, List.setIfInBounds_toArray, List.set_cons_zero, List.set_cons_succ]
            refine wpAnyH_take (i := 15) (v := ?_) rfl (by kernel_rfl) (by kernel_rfl) (by kernel_rfl) (fun _ _ _ h => h) (Or.inl ⟨by rfl, ?_⟩) (by assumption) ?_
            rotate_left 1
            · intro w hSw
              (try dsimp only at hSw)
              go_simp
              all_goals (with_reducible rfl)
            try simp only [Act.put, List.getElem_toArray, List.getElem_cons_zero, List.getElem_cons_succ, List.setIfInBounds_toArray, List.set_cons_zero, List.set_cons_succ]
            refine wpAnyH_take (i := 16) (v := ?_) rfl (by kernel_rfl) (by kernel_rfl) (by kernel_rfl) (fun _ _ _ h => h) (Or.inl ⟨by rfl, ?_⟩) (by assumption) ?_
            rotate_left 1
            · intro w hSw
              (try dsimp only at hSw)
              go_simp
              all_goals (with_reducible rfl)
            try simp only [Act.put, List.getElem_toArray, List.getElem_cons_zero, List.getElem_cons_succ, List.setIfInBounds_toArray, List.set_cons_zero, List.set_cons_succ]
            refine wpAnyH_take (i := 18) (v := ?_) rfl (by kernel_rfl) (by kernel_rfl) (by kernel_rfl) (fun _ _ _ h => h) (Or.inl ⟨by rfl, ?_⟩) (by assumption) ?_
            rotate_left 1
            · intro w hSw
              (try dsimp only at hSw)
              go_simp
              all_goals (with_reducible rfl)
            try simp only [Act.put, List.getElem_toArray, List.getElem_cons_zero, List.getElem_cons_succ, List.setIfInBounds_toArray, List.set_cons_zero, List.set_cons_succ]
            refine wpAnyH_take (i := 19) (v := ?_) rfl (by kernel_rfl) (by kernel_rfl) (by kernel_rfl) (fun _ _ _ h => h) (Or.inl ⟨by rfl, ?_⟩) (by assumption) ?_
            rotate_left 1
            · intro w hSw
              (try dsimp only at hSw)
              go_simp
              all_goals (with_reducible rfl)
            try simp only [Act.put, List.getElem_toArray, List.getElem_cons_zero, List.getElem_cons_succ, List.setIfInBounds_toArray, List.set_cons_zero, List.set_cons_succ]
            refine wpAnyH_take (i := 20) (v := ?_) rfl (by kernel_rfl) (by kernel_rfl) (by kernel_rfl) (fun _ _ _ h => h) (Or.inl ⟨by rfl, ?_⟩) (by assumption) ?_
            rotate_left 1
            · intro w hSw
              (try dsimp only at hSw)
              go_simp
              all_goals (with_reducible rfl)
            try simp only [Act.put, List.getElem_toArray, List.getElem_cons_zero, List.getElem_cons_succ, List.setIfInBounds_toArray, List.set_cons_zero, List.set_cons_succ]
            refine wpAnyH_take (i := 21) (v := ?_) rfl (by kernel_rfl) (by kernel_rfl) (by kernel_rfl) (fun _ _ _ h => h) (Or.inl ⟨by rfl, ?_⟩) (by assumption) ?_
            rotate_left 1
            · intro w hSw
              (try dsimp only at hSw)
              go_simp
              all_goals (with_reducible rfl)
            try simp only [Act.put, List.getElem_toArray, List.getElem_cons_zero, List.getElem_cons_succ, List.setIfInBounds_toArray, List.set_cons_zero, List.set_cons_succ]
            refine wpAnyH_take (i := 22) (v := ?_) rfl (by kernel_rfl) (by kernel_rfl) (by kernel_rfl) (fun _ _ _ h => h) (Or.inl ⟨by rfl, ?_⟩) (by assumption) ?_
            rotate_left 1
            · intro w hSw
              (try dsimp only at hSw)
              go_simp
              all_goals (with_reducible rfl)
            try simp only [Act.put, List.getElem_toArray, List.getElem_cons_zero, List.getElem_cons_succ, List.setIfInBounds_toArray, List.set_cons_zero, List.set_cons_succ]
            refine wpAnyH_ready (rs := [17]) (by kernel_rfl) (by simp) ?_
            refine AllReadyH.cons rfl (fun K hK => ?_) AllReadyH.nil
            go_simp
            refine (sseen_any x g nx KK D _ HX1.out).mono ?_
            rintro e q2 ⟨rfl, rfl⟩
            refine hK.out _ _ (HS1.out) (fun hHeld => ?_)
            clear hK K
            try simp only [Act.put, List.getElem_toArray, List.getElem_cons_zero, List.getElem_cons_succ, List.setIfInBounds_toArray, List.set_cons_zero, List.set_cons_succ]
            refine wpAnyH_take (i := 23) (v := ?_) rfl (by kernel_rfl) (by kernel_rfl) (by kernel_rfl) (fun _ _ _ h => h) (Or.inl ⟨by rfl, ?_⟩) (by assumption) ?_
            rotate_left 1
            · intro w hSw
              (try dsimp only at hSw)
              go_simp
              all_goals (with_reducible rfl)
            try simp only [Act.put, List.getElem_toArray, List.getElem_cons_zero, List.getElem_cons_succ, List.setIfInBounds_toArray, List.set_cons_zero, List.set_cons_succ]
            refine wpAnyH_take (i := 24) (v := ?_) rfl (by kernel_rfl) (by kernel_rfl) (by kernel_rfl) (fun _ _ _ h => h) (Or.inl ⟨by rfl, ?_⟩) (by assumption) ?_
            rotate_left 1
            · intro w hSw
              (try dsimp only at hSw)
              go_simp
              all_goals (with_reducible rfl)
            try simp only [Act.put, List.getElem_toArray, List.getElem_cons_zero, List.getElem_cons_succ, List.setIfInBounds_toArray, List.set_cons_zero, List.set_cons_succ]
            refine wpAnyH_take (i := 25) (v := ?_) rfl (by kernel_rfl) (by kernel_rfl) (by kernel_rfl) (fun _ _ _ h => h) (Or.inl ⟨by rfl, ?_⟩) (by assumption) ?_
            rotate_left 1
            · intro w hSw
              (try dsimp only at hSw)
              go_simp
              all_goals (with_reducible rfl)
            try simp only [Act.put, List.getElem_toArray, List.getElem_cons_zero, List.getElem_cons_succ, List.setIfInBounds_toArray, List.set_cons_zero, List.set_cons_succ]
            refine wpAnyH_done (by kernel_rfl) ?_ _
            go_wp2
            go_ret
            exact ⟨rfl, HBW.out.trans (HB1.out.mono HBW.out.size)⟩

end Go.Proofs.YtcpoaofcfefgaaaGreatDoor
end

section
namespace Go.Cor
open Go.RowKit

theorem wf_u32 {a : Int} (h : (Lit.int .u32 a).wf = true) : 0 ≤ a ∧ a < 4294967296 := by
  have : 0 ≤ a ∧ a ≤ 4294967295 := by simpa [Lit.wf, IntKind.min, IntKind.max, IntKind.bits, IntKind.signed] using h
  omega
theorem wf_u64 {a : Int} (h : (Lit.int .u64 a).wf = true) : 0 ≤ a ∧ a < 18446744073709551616 := by
  have : 0 ≤ a ∧ a ≤ 18446744073709551615 := by simpa [Lit.wf, IntKind.min, IntKind.max, IntKind.bits, IntKind.signed] using h
  omega
theorem wf_i64 {a : Int} (h : (Lit.int .i64 a).wf = true) : -9223372036854775808 ≤ a ∧ a ≤ 9223372036854775807 := by
  have : -9223372036854775808 ≤ a ∧ a ≤ 9223372036854775807 := by simpa [Lit.wf, IntKind.min, IntKind.max, IntKind.bits, IntKind.signed] using h
  omega
theorem isB_of_row {w : World} {a : Option Addr} {len cap : Nat} {zs : List Int}
    (h : (a = none ∧ len = 0 ∧ cap = 0 ∧ zs = []) ∨
      ∃ x, a = some x ∧ len ≤ cap ∧ cap ≤ maxLen ∧ zs.length = cap ∧ (∀ i, i < zs.length → w.cell? (x.add i) = some (.int .u8 (zs.getD i 0))) ∧ ∀ n ∈ zs, (Lit.int .u8 n).wf = true) :
    ∃ l : List UInt8, l.length = len ∧ IsB w (.slice a len cap) l := by
  rcases h with ⟨rfl, rfl, rfl, rfl⟩ | ⟨x, rfl, hl, hm, hz, hcell, hwz⟩
  · exact ⟨[], rfl, IsB.nil w⟩
  · have hlen : ((zs.take len).map fun z => UInt8.ofNat z.toNat).length = len := by simp; omega
    refine ⟨(zs.take len).map fun z => UInt8.ofNat z.toNat, hlen, some x, cap, by rw [hlen], by omega, hm, by simp, ?_⟩
    by_cases h0 : len = 0
    · subst h0
      exact .inl (by simp)
    · obtain ⟨b, off, spot⟩ := x
      have hc := hcell 0 (by omega)
      have hspot : spot = none := by simpa [Addr.add] using World.cell?_spot hc
      subst hspot
      refine .inr ⟨b, off, rfl, fun i hi => ?_⟩
      rw [hlen] at hi
      have h1 := hcell i (by omega)
      have hadd : (⟨b, off, none⟩ : Addr).add i = ⟨b, off + i, none⟩ := by unfold Addr.add; split <;> simp_all
      rw [hadd] at h1
      rw [h1]
      have hwf := hwz (zs.getD i 0) (by rw [List.getD_eq_getElem?_getD, List.getElem?_eq_getElem (by omega)]; simp)
      have hb : 0 ≤ zs.getD i 0 ∧ zs.getD i 0 ≤ 255 := by simpa [Lit.wf, IntKind.min, IntKind.max, IntKind.bits, IntKind.signed] using hwf
      have e : ((zs.take len).map fun z => UInt8.ofNat z.toNat).getD i 0 = UInt8.ofNat (zs.getD i 0).toNat := by
        simp only [List.getD_eq_getElem?_getD, List.getElem?_map, List.getElem?_take, if_pos hi]
        rw [List.getElem?_eq_getElem (by omega)]
        simp
      rw [e]
      show some (Value.int .u8 (zs.getD i 0)) = some (.int .u8 (((UInt8.ofNat (zs.getD i 0).toNat).toNat : Nat) : Int))
      rw [UInt8.toNat_ofNat']
      congr 2
      omega

end Go.Cor
end

section
namespace Go.Cor
open Go.RowKit Go.ChangeShapes Go.WideShapes Go.Joins Go.Deep
variable {H : Type} {enc : TypeId × Value → H} {W : World} {P : Program}

theorem list_of {α : Type} {Q : Nat → α → Prop} (n : Nat) (h : ∀ i, i < n → ∃ x, Q i x) : ∃ l : List α, l.length = n ∧ ∀ i x, l[i]? = some x → Q i x := by
  induction n with
  | zero => exact ⟨[], rfl, fun i x h => by simp at h⟩
  | succ k ih =>
    obtain ⟨l, hlen, hl⟩ := ih (fun i hi => h i (by omega))
    obtain ⟨x, hx⟩ := h k (by omega)
    refine ⟨l ++ [x], by simp [hlen], fun i y hi => ?_⟩
    by_cases hik : i < k
    · rw [List.getElem?_append_left (by omega)] at hi
      exact hl i y hi
    · have hlt := (List.getElem?_eq_some_iff.1 hi).1
      simp [hlen] at hlt
      obtain rfl : i = k := by omega
      rw [List.getElem?_append_right (by omega), hlen] at hi
      simp at hi
      subst hi
      exact hx

theorem rows_of_trod {α : Type} {size : Nat} {T U : TypeId} (en : α → List Value) (good : α → Prop) (hT : P.underlying T = some (.slice U)) (hC : P.cellsOf U = size) (hs : 0 < size) (hen : ∀ x, (en x).length = size)
    (el : ∀ fuel cs y, DataW.trod enc P W 0 (fun _ => true) true fuel U cs = some y → ∃ x, cs = en x ∧ good x)
    {fuel : Nat} {c : Value} {y : DataW H × List MemPlace} (h : DataW.trod enc P W 0 (fun _ => true) true fuel T [c] = some y) :
    ∃ l : List α, IsX W size c l.length (row en l) ∧ ∀ x ∈ l, good x := by
  rcases open_slice hT h with ⟨hcs, _⟩ | ⟨x, len, cap, m, k, D, Pl, hcs, _, hl, hm, hmm, _, hi⟩
  · simp only [List.cons.injEq, and_true] at hcs
    subst hcs
    exact ⟨[], IsX.nil _ _, fun x hx => by cases hx⟩
  · simp only [List.cons.injEq, and_true] at hcs
    subst hcs
    have hml : len ≤ m := by simp at hmm; omega
    obtain ⟨b, off, spot⟩ := x
    have each : ∀ i, i < len → ∃ z : α, good z ∧ ∀ j, j < size → W.cell? (((⟨b, off, spot⟩ : Addr).add (i * size)).add j) = (en z)[j]? := fun i hil => by
      obtain ⟨cs', hc, ht⟩ := hi i (by omega)
      rw [hC] at hc
      obtain ⟨_, hcl, hat⟩ := World.cells?_some hc
      obtain ⟨z, rfl, hz⟩ := el _ _ _ ht
      exact ⟨z, hz, hat⟩
    obtain ⟨l, hlen, hl'⟩ := list_of len each
    refine ⟨l, ⟨some ⟨b, off, spot⟩, cap, by rw [hlen], by omega, hm, length_row hen l, (fun h => by cases h), ?_⟩, fun z hz => ?_⟩
    · by_cases h0 : len = 0
      · exact .inl (by omega)
      · have hspot : spot = none := by
          obtain ⟨z, _, hat⟩ := each 0 (by omega)
          have h1 : (en z)[0]? = some ((en z)[0]'(by rw [hen]; exact hs)) := List.getElem?_eq_getElem _
          have := World.cell?_spot ((hat 0 hs).trans h1)
          simpa [Addr.add] using this
        subst hspot
        simp only [add_lit] at hl'
        refine .inr ⟨b, off, rfl, fun j hj => ?_⟩
        rw [hlen] at hj
        have hq : j / size < len := Nat.div_lt_of_lt_mul (by rw [Nat.mul_comm]; exact hj)
        have hz := List.getElem?_eq_getElem (l := l) (i := j / size) (by omega)
        obtain ⟨_, hc⟩ := hl' _ _ hz
        have hm2 := Nat.mod_lt j hs
        have e : j = j / size * size + j % size := by rw [Nat.mul_comm]; exact (Nat.div_add_mod j size).symm
        have h1 := hc (j % size) hm2
        have h2 := row_get hen hz (j % size) hm2
        rw [← e] at h2
        rw [h2, ← h1]
        congr 2
        omega
    · obtain ⟨i, hi'⟩ := List.getElem?_of_mem hz
      exact (hl' i z hi').1

end Go.Cor
end

section
namespace Go.Proofs.YtcpoaofcfefgaaaGreatDoor
open Go.RowKit Go.Cor Go.ChangeShapes Go.WideShapes Go.Joins Go.Deep
variable {H : Type} {enc : TypeId × Value → H} {W : World}

theorem isB_of_trod {fuel : Nat} {c : Value} {y : DataW H × List MemPlace} (h : DataW.trod enc Tryz.prog W 0 (fun _ => true) true fuel 53 [c] = some y) : ∃ l : List UInt8, IsB W c l := by
  rcases open_ints Tryz.underlying53 Tryz.underlying5 (by kernel_rfl) h with ⟨hcs, _⟩ | ⟨x, l, c', zs, hcs, _, hl, hm, hz, _, hcell, hwz⟩
  · simp only [List.cons.injEq, and_true] at hcs
    subst hcs
    exact ⟨[], IsB.nil _⟩
  · simp only [List.cons.injEq, and_true] at hcs
    subst hcs
    obtain ⟨l', e, h'⟩ := isB_of_row (w := W) (a := some x) (len := l) (cap := c') (zs := zs) (.inr ⟨x, rfl, hl, hm, by simpa using hz, hcell, hwz⟩)
    exact ⟨l', h'⟩
theorem Tryz.coI9 : Tryz.prog.cellsOf 3 = 1 := by kernel_rfl
theorem Tryz.coK9 : Tryz.prog.cellsOf 46 = 1 := by kernel_rfl
theorem Tryz.coC9 : Tryz.prog.cellsOf 47 = 1 := by kernel_rfl
theorem Tryz.coG9 : Tryz.prog.cellsOf 4 = 1 := by kernel_rfl
theorem Tryz.coD9 : Tryz.prog.cellsOf 53 = 1 := by kernel_rfl
theorem Tryz.coN9 : Tryz.prog.cellsOf 55 = 4 := by kernel_rfl
theorem Tryz.coA9 : Tryz.prog.cellsOf 57 = 6 := by kernel_rfl
theorem list6 {α : Type} {l : List α} (h : l.length = 6) : ∃ a b c d e f, l = [a, b, c, d, e, f] := by
  match l, h with
  | [a, b, c, d, e, f], _ => exact ⟨a, b, c, d, e, f, rfl⟩
theorem trod_s3 {P : Program} {t : TypeId} {f0 f1 f2 : Field} {fuel : Nat} {cs : List Value} {x : DataW H × List MemPlace} (ht : P.underlying t = some (.struct #[f0, f1, f2])) (h : DataW.trod enc P W 0 (fun _ => true) true fuel t cs = some x) :
    ∃ y0 y1 y2 n, cs.length = P.cellsOf t ∧ DataW.trod enc P W 0 (fun _ => true) true n f0.type ((cs.drop f0.offset).take (P.cellsOf f0.type)) = some y0 ∧ DataW.trod enc P W 0 (fun _ => true) true n f1.type ((cs.drop f1.offset).take (P.cellsOf f1.type)) = some y1 ∧ DataW.trod enc P W 0 (fun _ => true) true n f2.type ((cs.drop f2.offset).take (P.cellsOf f2.type)) = some y2 := by
  obtain ⟨xs, n, _, _, hl, hlen, hf⟩ := DataW.trod_struct ht h
  match xs, hlen with
  | [y0, y1, y2], _ => exact ⟨y0, y1, y2, n, hl, by simpa using hf 0 f0 rfl, by simpa using hf 1 f1 rfl, by simpa using hf 2 f2 rfl⟩
theorem trod_s4 {P : Program} {t : TypeId} {f0 f1 f2 f3 : Field} {fuel : Nat} {cs : List Value} {x : DataW H × List MemPlace} (ht : P.underlying t = some (.struct #[f0, f1, f2, f3])) (h : DataW.trod enc P W 0 (fun _ => true) true fuel t cs = some x) :
    ∃ y0 y1 y2 y3 n, cs.length = P.cellsOf t ∧ DataW.trod enc P W 0 (fun _ => true) true n f0.type ((cs.drop f0.offset).take (P.cellsOf f0.type)) = some y0 ∧ DataW.trod enc P W 0 (fun _ => true) true n f1.type ((cs.drop f1.offset).take (P.cellsOf f1.type)) = some y1 ∧ DataW.trod enc P W 0 (fun _ => true) true n f2.type ((cs.drop f2.offset).take (P.cellsOf f2.type)) = some y2 ∧ DataW.trod enc P W 0 (fun _ => true) true n f3.type ((cs.drop f3.offset).take (P.cellsOf f3.type)) = some y3 := by
  obtain ⟨xs, n, _, _, hl, hlen, hf⟩ := DataW.trod_struct ht h
  match xs, hlen with
  | [y0, y1, y2, y3], _ => exact ⟨y0, y1, y2, y3, n, hl, by simpa using hf 0 f0 rfl, by simpa using hf 1 f1 rfl, by simpa using hf 2 f2 rfl, by simpa using hf 3 f3 rfl⟩
set_option maxRecDepth 10000 in
theorem act9_of_trod (fuel : Nat) (cs : List Value) (y : DataW H × List MemPlace) (h : DataW.trod enc Tryz.prog W 0 (fun _ => true) true fuel 57 cs = some y) : ∃ x : A9v, cs = acl x ∧ (IsB W x.2 x.1.n.data ∧ x.2.oneCell' = true) ∧ x.1.n.fits := by
  obtain ⟨y0, y1, y2, n, hl, h0, h1, h2⟩ := trod_s3 Tryz.underlying57 h
  rw [Tryz.coA9] at hl
  obtain ⟨c0, c1, c2, c3, c4, c5, rfl⟩ := list6 hl
  simp only [Tryz.coI9, Tryz.coN9, List.drop_zero, List.drop_succ_cons, List.take_succ_cons, List.take_zero] at h0 h1 h2
  obtain ⟨z0, z1, z2, z3, n2, _, g0, g1, g2, g3⟩ := trod_s4 Tryz.underlying55 h2
  simp only [Tryz.coK9, Tryz.coC9, Tryz.coG9, Tryz.coD9, List.drop_zero, List.drop_succ_cons, List.take_succ_cons, List.take_zero] at g0 g1 g2 g3
  obtain ⟨a0, e0, _, w0⟩ := DataW.trod_int Tryz.underlying3 h0
  obtain ⟨a1, e1, _, w1⟩ := DataW.trod_int Tryz.underlying3 h1
  obtain ⟨a2, e2, _, w2⟩ := DataW.trod_int Tryz.underlying46 g0
  obtain ⟨a3, e3, _, w3⟩ := DataW.trod_int Tryz.underlying47 g1
  obtain ⟨a4, e4, _⟩ := DataW.trod_bool Tryz.underlying4 g2
  obtain ⟨b, hb⟩ := isB_of_trod g3
  simp only [List.cons.injEq, and_true] at e0 e1 e2 e3 e4
  subst e0 e1 e2 e3 e4
  have b2 := wf_u64 w2
  have b3 := wf_u32 w3
  obtain ⟨k, rfl⟩ := Int.eq_ofNat_of_zero_le b2.1
  obtain ⟨c, rfl⟩ := Int.eq_ofNat_of_zero_le b3.1
  refine ⟨(⟨a0, a1, ⟨k, c, a4, b⟩⟩, c5), rfl, ⟨hb, ?_⟩, ⟨by show k < 18446744073709551616; omega, by show c < 4294967296; omega⟩⟩
  obtain ⟨x, cap, rfl, _⟩ := hb
  rfl
theorem acts9_of_trod {fuel : Nat} {c : Value} {y : DataW H × List MemPlace} (h : DataW.trod enc Tryz.prog W 0 (fun _ => true) true fuel 22 [c] = some y) : ∃ l : List A9v, IsA W c l ∧ ∀ x ∈ l, x.1.n.fits := by
  obtain ⟨l, h1, h2⟩ := rows_of_trod acl (fun x => (IsB W x.2 x.1.n.data ∧ x.2.oneCell' = true) ∧ x.1.n.fits) Tryz.underlying22 Tryz.coA9 (by decide) acl_len act9_of_trod h
  exact ⟨l, ⟨h1, fun x hx => (h2 x hx).1⟩, fun x hx => (h2 x hx).2⟩

end Go.Proofs.YtcpoaofcfefgaaaGreatDoor
end
