/- Package check by contracts: Right. -/
import Derived.Test.YtengfglopagdmaaPos
namespace Go.Proofs.Ytengfglopagdmaa
open Go.RowKit Go.Cor

/-- A checkpoint in a box of its own. -/
def BoxC (w : World) (g : Nat) (a b d : Int) (v : Value) : Prop :=
  w.cell? ⟨g, 0, none⟩ = some (.int .i64 a) ∧ w.cell? ⟨g, 1, none⟩ = some (.int .i64 b) ∧ w.cell? ⟨g, 2, none⟩ = some (.int .i64 d) ∧ w.cell? ⟨g, 3, none⟩ = some v
theorem BoxC.mono {w w' : World} {g B : Nat} {a b d : Int} {v : Value} (h : BoxC w g a b d v) (hb : Below B w w') (hg : g < B) : BoxC w' g a b d v :=
  ⟨(hb.cell (p := ⟨g, 0, none⟩) hg).trans h.1, (hb.cell (p := ⟨g, 1, none⟩) hg).trans h.2.1, (hb.cell (p := ⟨g, 2, none⟩) hg).trans h.2.2.1, (hb.cell (p := ⟨g, 3, none⟩) hg).trans h.2.2.2⟩
theorem BoxC.new (w : World) (a b d : Int) (v : Value) (T : TypeId) : BoxC (w.alloc (.cells #[.int .i64 a, .int .i64 b, .int .i64 d, v] T)) w.heap.size a b d v := by
  refine ⟨?_, ?_, ?_, ?_⟩ <;> go_simp

theorem hOk_inB (v g u : Int) : hOk v g u = (inB v 1 65535 && (inB g 1 2147483647 && inB u 0 16777216)) := by
  unfold hOk inB
  rw [Bool.eq_iff_iff]
  simp only [decide_eq_true_eq, Bool.and_eq_true]
  omega

set_option maxHeartbeats 1000000 in
theorem right_head (a b d : Int) (ps : List Pos) (v : Value) (w : World) (hv : IsP w v ps) (hl : ps.length ≤ 4096) (hh : hOk a b d = false) :
    Calls Try.prog 10 #[cval ⟨a, b, d, ps⟩ v] w fun e w' => e = .returned (err 1) ∧ Below w.heap.size w w' := by
  obtain ⟨N, hN⟩ : ∃ N, ps.length = N := ⟨_, rfl⟩
  obtain ⟨x, cap, rfl, hlc, hcm⟩ := hv.at_len hN
  rw [hN] at hl
  rw [hOk_inB] at hh
  clear hv hN
  cases h1 : inB a 1 65535 with
  | false =>
    clear hh
    go_enter Try.func10, Try.ntmps10
    go_wp2_with (go_at_call 21; refine (within_any _ _ _ _).mono ?_; rintro e w' ⟨rfl, rfl⟩; rw [h1])
    go_ret
    exact ⟨rfl, (Below.refl _ _).alloc (Nat.le_refl _) _⟩
  | true =>
    cases h2 : inB b 1 2147483647 with
    | false =>
      clear hh
      go_enter Try.func10, Try.ntmps10
      go_wp2_with (go_at_call 21; refine (within_any _ _ _ _).mono ?_; rintro e w' ⟨rfl, rfl⟩; first | rw [h1] | rw [h2])
      go_ret
      exact ⟨rfl, (Below.refl _ _).alloc (Nat.le_refl _) _⟩
    | true =>
      rw [h1, h2, Bool.true_and, Bool.true_and] at hh
      go_enter Try.func10, Try.ntmps10
      go_wp2_with (go_at_call 21; refine (within_any _ _ _ _).mono ?_; rintro e w' ⟨rfl, rfl⟩; first | rw [h1] | rw [h2] | rw [hh])
      go_ret
      exact ⟨rfl, (Below.refl _ _).alloc (Nat.le_refl _) _⟩

theorem right_long (a b d : Int) (ps : List Pos) (v : Value) (w : World) (hv : IsP w v ps) (hl : 4096 < ps.length) :
    Calls Try.prog 10 #[cval ⟨a, b, d, ps⟩ v] w fun e w' => e = .returned (err 2) ∧ Below w.heap.size w w' := by
  obtain ⟨N, hN⟩ : ∃ N, ps.length = N := ⟨_, rfl⟩
  obtain ⟨x, cap, rfl, hlc, hcm⟩ := hv.at_len hN
  rw [hN] at hl
  have h' : (4096 : Int) < (N : Int) := by omega
  clear hv hN
  go_enter Try.func10, Try.ntmps10
  go_wp2
  go_ret
  exact ⟨rfl, (Below.refl _ _).alloc (Nat.le_refl _) _⟩

theorem pOk_can {ps : List Pos} {i : Nat} (h : pcan (pat ps i) = false) : pOk ps i = false := by unfold pOk; rw [h]; rfl
theorem pOk_zero {ps : List Pos} (h : pcan (pat ps 0) = true) : pOk ps 0 = true := by unfold pOk; rw [h, Bool.true_and]; exact decide_eq_true (.inl rfl)
theorem pOk_succ {ps : List Pos} {i : Nat} (h : pcan (pat ps (i + 1)) = true) : pOk ps (i + 1) = decide ((pat ps i).key < (pat ps (i + 1)).key) := by
  unfold pOk kOk
  rw [h, Bool.true_and, Nat.add_sub_cancel]
  simp

theorem PKeep {wz wa : World} {b : Nat} {v0 v1 v2 v3 v4 : Value} (hb : Below wz.heap.size wz wa) (hl : b < wz.heap.size)
    (K : wz.cell? ⟨b, 0, none⟩ = some v0 ∧ wz.cell? ⟨b, 1, none⟩ = some v1 ∧ wz.cell? ⟨b, 2, none⟩ = some v2 ∧ wz.cell? ⟨b, 3, none⟩ = some v3 ∧ wz.cell? ⟨b, 4, none⟩ = some v4) :
    wa.cell? ⟨b, 0, none⟩ = some v0 ∧ wa.cell? ⟨b, 1, none⟩ = some v1 ∧ wa.cell? ⟨b, 2, none⟩ = some v2 ∧ wa.cell? ⟨b, 3, none⟩ = some v3 ∧ wa.cell? ⟨b, 4, none⟩ = some v4 :=
  ⟨(hb.cell hl).trans K.1, (hb.cell hl).trans K.2.1, (hb.cell hl).trans K.2.2.1, (hb.cell hl).trans K.2.2.2.1, (hb.cell hl).trans K.2.2.2.2⟩
set_option maxRecDepth 100000 in
set_option maxHeartbeats 4000000 in
theorem right_list (a b d : Int) (ps : List Pos) (v : Value) (w : World) (hv : IsP w v ps) (hl : ps.length ≤ 4096) (hh : hOk a b d = true) :
    Calls Try.prog 10 #[cval ⟨a, b, d, ps⟩ v] w fun e w' => e = .returned (if lOk ps = true then .nilIface else err 1) ∧ Below w.heap.size w w' := by
  obtain ⟨N, hN⟩ : ∃ N, ps.length = N := ⟨_, rfl⟩
  have HV := Lib.hid hv
  obtain ⟨x, cap, rfl, hlc, hcm⟩ := hv.at_len hN
  rw [hN] at hl
  have HN := Lib.hid hN
  rw [hOk_inB, Bool.and_eq_true, Bool.and_eq_true] at hh
  obtain ⟨h1, h2, h3⟩ := hh
  obtain ⟨rv, hrv⟩ : ∃ rv, rv = (if lOk ps = true then Value.nilIface else err 1) := ⟨_, rfl⟩
  rw [← hrv]
  have HRV := Lib.hid hrv
  clear hv hN hrv
  go_enter Try.func10, Try.ntmps10
  go_wp2_with (go_at_call 21; refine (within_any _ _ _ _).mono ?_; rintro e w' ⟨rfl, rfl⟩; first | rw [h1] | rw [h2] | rw [h3])
  clear h1 h2 h3
  go_loopw [30] (fun k wr => ∃ i : Nat, i ≤ N ∧ k = .int .i64 i ∧ Hid (∀ j, j < i → pOk ps j = true) ∧ Hid (Below (w.heap.size + 1) (w.alloc (.cells #[.int .i64 a, .int .i64 b, .int .i64 d, .slice x N cap] 34)) wr)) (fun k _ => N - (intOf k).toNat)
  case atStart => exact ⟨0, by omega, rfl, Lib.hid (fun j hj => by omega), Lib.hid (Below.refl _ _)⟩
  case round =>
    obtain ⟨i, hi, rfl, hK, hB⟩ := hrel
    have HB0 := Lib.hid (((Below.refl w.heap.size w).alloc (Nat.le_refl _) (.cells #[.int .i64 a, .int .i64 b, .int .i64 d, .slice x N cap] 34)).trans (hB.out.mono (Nat.le_succ _)))
    by_cases hlt : i < N
    · have HVr := Lib.hid (HV.out.mono HB0.out (Nat.le_refl _))
      have HX := Lib.hid ((BoxC.new w a b d (.slice x N cap) 34).mono hB.out (Nat.lt_succ_self _))
      have hs := hB.out.size
      obtain ⟨p, hp⟩ : ∃ p, pat ps i = p := ⟨_, rfl⟩
      obtain ⟨bp, op, hidx, hcell⟩ := indexAt_P HVr.out 32 53 Try.underlying32 Try.sizePos i (by rw [HN.out]; exact hlt)
      rw [hp] at hcell
      obtain ⟨k0, k1, k2, k3, k4⟩ := hcell
      have HP := Lib.hid hp
      clear hp
      obtain ⟨ok, hok⟩ : ∃ ok, pOk ps i = ok := ⟨_, rfl⟩
      have HOK := Lib.hid hok
      clear hok
      go_upto_region 8 with fail
      have HW1 := Lib.hid ((Below.refl wr.heap.size wr).alloc (Nat.le_refl _) (.cells #[.int .u64 (p.key : Int), .int .i64 p.off, .int .i64 p.len, .int .u32 (p.cookie : Int), .bool p.gone] 53))
      go_cut [53] from 35 to 53 (fun q wx => q = .bool (!ok) ∧ Below wr.heap.size (wr.alloc (.cells #[.int .u64 (p.key : Int), .int .i64 p.off, .int .i64 p.len, .int .u32 (p.cookie : Int), .bool p.gone] 53)) wx)
      case first =>
        clear k0 k1 k2 k3 k4
        have K0 : (wr.alloc (.cells #[.int .u64 (p.key : Int), .int .i64 p.off, .int .i64 p.len, .int .u32 (p.cookie : Int), .bool p.gone] 53)).cell? ⟨wr.heap.size, 0, none⟩ = some (.int .u64 (p.key : Int)) ∧ (wr.alloc (.cells #[.int .u64 (p.key : Int), .int .i64 p.off, .int .i64 p.len, .int .u32 (p.cookie : Int), .bool p.gone] 53)).cell? ⟨wr.heap.size, 1, none⟩ = some (.int .i64 p.off) ∧ (wr.alloc (.cells #[.int .u64 (p.key : Int), .int .i64 p.off, .int .i64 p.len, .int .u32 (p.cookie : Int), .bool p.gone] 53)).cell? ⟨wr.heap.size, 2, none⟩ = some (.int .i64 p.len) ∧ (wr.alloc (.cells #[.int .u64 (p.key : Int), .int .i64 p.off, .int .i64 p.len, .int .u32 (p.cookie : Int), .bool p.gone] 53)).cell? ⟨wr.heap.size, 3, none⟩ = some (.int .u32 (p.cookie : Int)) ∧ (wr.alloc (.cells #[.int .u64 (p.key : Int), .int .i64 p.off, .int .i64 p.len, .int .u32 (p.cookie : Int), .bool p.gone] 53)).cell? ⟨wr.heap.size, 4, none⟩ = some (.bool p.gone) := by refine ⟨?_, ?_, ?_, ?_, ?_⟩ <;> go_simp
        have K1 : (wr.alloc (.cells #[.int .u64 (p.key : Int), .int .i64 p.off, .int .i64 p.len, .int .u32 (p.cookie : Int), .bool p.gone] 53)).drew.cell? ⟨wr.heap.size, 0, none⟩ = some (.int .u64 (p.key : Int)) ∧ (wr.alloc (.cells #[.int .u64 (p.key : Int), .int .i64 p.off, .int .i64 p.len, .int .u32 (p.cookie : Int), .bool p.gone] 53)).drew.cell? ⟨wr.heap.size, 1, none⟩ = some (.int .i64 p.off) ∧ (wr.alloc (.cells #[.int .u64 (p.key : Int), .int .i64 p.off, .int .i64 p.len, .int .u32 (p.cookie : Int), .bool p.gone] 53)).drew.cell? ⟨wr.heap.size, 2, none⟩ = some (.int .i64 p.len) ∧ (wr.alloc (.cells #[.int .u64 (p.key : Int), .int .i64 p.off, .int .i64 p.len, .int .u32 (p.cookie : Int), .bool p.gone] 53)).drew.cell? ⟨wr.heap.size, 3, none⟩ = some (.int .u32 (p.cookie : Int)) ∧ (wr.alloc (.cells #[.int .u64 (p.key : Int), .int .i64 p.off, .int .i64 p.len, .int .u32 (p.cookie : Int), .bool p.gone] 53)).drew.cell? ⟨wr.heap.size, 4, none⟩ = some (.bool p.gone) := K0
        cases hc : pcan p with
        | false =>
          obtain rfl : ok = false := HOK.out.symm.trans (pOk_can (by rw [HP.out]; exact hc))
          go_wp2_with fail
          refine wp_region_held_drew (S := (fun wx => wx.cell? ⟨wr.heap.size, 0, none⟩ = some (.int .u64 (p.key : Int)) ∧ wx.cell? ⟨wr.heap.size, 1, none⟩ = some (.int .i64 p.off) ∧ wx.cell? ⟨wr.heap.size, 2, none⟩ = some (.int .i64 p.len) ∧ wx.cell? ⟨wr.heap.size, 3, none⟩ = some (.int .u32 (p.cookie : Int)) ∧ wx.cell? ⟨wr.heap.size, 4, none⟩ = some (.bool p.gone))) (by kernel_rfl) (K1) (fun hHeld => ?_)
          refine wpAnyH_take (i := 0) (v := ?_) rfl (by kernel_rfl) (by kernel_rfl) (by kernel_rfl) (fun _ _ _ h => h) (Or.inl ⟨by rfl, ?_⟩) (by assumption) ?_
          rotate_left 1
          · intro w hSw
            (try dsimp only at hSw)
            go_simp
            all_goals (with_reducible rfl)
          try simp only [Act.put, List.getElem_toArray, List.getElem_cons_zero, List.getElem_cons_succ, List.setIfInBounds_toArray, List.set_cons_zero, List.set_cons_succ]
          refine wpAnyH_ready (rs := [1]) (by kernel_rfl) (by simp) ?_
          refine AllReadyH.cons rfl (fun K hK => ?_) AllReadyH.nil
          go_simp
          go_at_call 22
          refine (can_any p _).mono ?_
          rintro e wa ⟨rfl, hba⟩
          rw [hc]
          have Ka := PKeep hba (by simp) K1
          go_wp2_with fail
          refine hK.out _ _ (Ka) (fun hHeld => ?_)
          clear hK K
          try simp only [Act.put, List.getElem_toArray, List.getElem_cons_zero, List.getElem_cons_succ, List.setIfInBounds_toArray, List.set_cons_zero, List.set_cons_succ]
          refine wpAnyH_take (i := 2) (v := ?_) rfl (by kernel_rfl) (by kernel_rfl) (by kernel_rfl) (fun _ _ _ h => h) (Or.inl ⟨by rfl, ?_⟩) (by assumption) ?_
          rotate_left 1
          · intro w hSw
            (try dsimp only at hSw)
            go_simp
            all_goals (with_reducible rfl)
          try simp only [Act.put, List.getElem_toArray, List.getElem_cons_zero, List.getElem_cons_succ, List.setIfInBounds_toArray, List.set_cons_zero, List.set_cons_succ]
          refine wpAnyH_take (i := 3) (v := ?_) rfl (by kernel_rfl) (by kernel_rfl) (by kernel_rfl) (fun _ _ _ h => h) (Or.inl ⟨by rfl, ?_⟩) (by assumption) ?_
          rotate_left 1
          · intro w hSw
            (try dsimp only at hSw)
            go_simp
            all_goals (with_reducible rfl)
          try simp only [Act.put, List.getElem_toArray, List.getElem_cons_zero, List.getElem_cons_succ, List.setIfInBounds_toArray, List.set_cons_zero, List.set_cons_succ]
          refine wpAnyH_take (i := 4) (v := undef) rfl (by kernel_rfl) (by kernel_rfl) (by kernel_rfl) (fun _ _ _ h => h) (Or.inr ⟨by rfl, rfl⟩) (by assumption) ?_
          try simp only [Act.put, List.getElem_toArray, List.getElem_cons_zero, List.getElem_cons_succ, List.setIfInBounds_toArray, List.set_cons_zero, List.set_cons_succ]
          refine wpAnyH_take (i := 5) (v := undef) rfl (by kernel_rfl) (by kernel_rfl) (by kernel_rfl) (fun _ _ _ h => h) (Or.inr ⟨by rfl, rfl⟩) (by assumption) ?_
          try simp only [Act.put, List.getElem_toArray, List.getElem_cons_zero, List.getElem_cons_succ, List.setIfInBounds_toArray, List.set_cons_zero, List.set_cons_succ]
          refine wpAnyH_take (i := 6) (v := undef) rfl (by kernel_rfl) (by kernel_rfl) (by kernel_rfl) (fun _ _ _ h => h) (Or.inr ⟨by rfl, rfl⟩) (by assumption) ?_
          try simp only [Act.put, List.getElem_toArray, List.getElem_cons_zero, List.getElem_cons_succ, List.setIfInBounds_toArray, List.set_cons_zero, List.set_cons_succ]
          refine wpAnyH_take (i := 7) (v := undef) rfl (by kernel_rfl) (by kernel_rfl) (by kernel_rfl) (fun _ _ _ h => h) (Or.inr ⟨by rfl, rfl⟩) (by assumption) ?_
          try simp only [Act.put, List.getElem_toArray, List.getElem_cons_zero, List.getElem_cons_succ, List.setIfInBounds_toArray, List.set_cons_zero, List.set_cons_succ]
          refine wpAnyH_take (i := 8) (v := undef) rfl (by kernel_rfl) (by kernel_rfl) (by kernel_rfl) (fun _ _ _ h => h) (Or.inr ⟨by rfl, rfl⟩) (by assumption) ?_
          try simp only [Act.put, List.getElem_toArray, List.getElem_cons_zero, List.getElem_cons_succ, List.setIfInBounds_toArray, List.set_cons_zero, List.set_cons_succ]
          refine wpAnyH_take (i := 9) (v := undef) rfl (by kernel_rfl) (by kernel_rfl) (by kernel_rfl) (fun _ _ _ h => h) (Or.inr ⟨by rfl, rfl⟩) (by assumption) ?_
          try simp only [Act.put, List.getElem_toArray, List.getElem_cons_zero, List.getElem_cons_succ, List.setIfInBounds_toArray, List.set_cons_zero, List.set_cons_succ]
          refine wpAnyH_take (i := 10) (v := undef) rfl (by kernel_rfl) (by kernel_rfl) (by kernel_rfl) (fun _ _ _ h => h) (Or.inr ⟨by rfl, rfl⟩) (by assumption) ?_
          try simp only [Act.put, List.getElem_toArray, List.getElem_cons_zero, List.getElem_cons_succ, List.setIfInBounds_toArray, List.set_cons_zero, List.set_cons_succ]
          refine wpAnyH_take (i := 11) (v := undef) rfl (by kernel_rfl) (by kernel_rfl) (by kernel_rfl) (fun _ _ _ h => h) (Or.inr ⟨by rfl, rfl⟩) (by assumption) ?_
          try simp only [Act.put, List.getElem_toArray, List.getElem_cons_zero, List.getElem_cons_succ, List.setIfInBounds_toArray, List.set_cons_zero, List.set_cons_succ]
          refine wpAnyH_take (i := 12) (v := undef) rfl (by kernel_rfl) (by kernel_rfl) (by kernel_rfl) (fun _ _ _ h => h) (Or.inr ⟨by rfl, rfl⟩) (by assumption) ?_
          try simp only [Act.put, List.getElem_toArray, List.getElem_cons_zero, List.getElem_cons_succ, List.setIfInBounds_toArray, List.set_cons_zero, List.set_cons_succ]
          refine wpAnyH_take (i := 13) (v := undef) rfl (by kernel_rfl) (by kernel_rfl) (by kernel_rfl) (fun _ _ _ h => h) (Or.inr ⟨by rfl, rfl⟩) (by assumption) ?_
          try simp only [Act.put, List.getElem_toArray, List.getElem_cons_zero, List.getElem_cons_succ, List.setIfInBounds_toArray, List.set_cons_zero, List.set_cons_succ]
          refine wpAnyH_take (i := 14) (v := undef) rfl (by kernel_rfl) (by kernel_rfl) (by kernel_rfl) (fun _ _ _ h => h) (Or.inr ⟨by rfl, rfl⟩) (by assumption) ?_
          try simp only [Act.put, List.getElem_toArray, List.getElem_cons_zero, List.getElem_cons_succ, List.setIfInBounds_toArray, List.set_cons_zero, List.set_cons_succ]
          refine wpAnyH_take (i := 15) (v := undef) rfl (by kernel_rfl) (by kernel_rfl) (by kernel_rfl) (fun _ _ _ h => h) (Or.inr ⟨by rfl, rfl⟩) (by assumption) ?_
          try simp only [Act.put, List.getElem_toArray, List.getElem_cons_zero, List.getElem_cons_succ, List.setIfInBounds_toArray, List.set_cons_zero, List.set_cons_succ]
          refine wpAnyH_take (i := 16) (v := undef) rfl (by kernel_rfl) (by kernel_rfl) (by kernel_rfl) (fun _ _ _ h => h) (Or.inr ⟨by rfl, rfl⟩) (by assumption) ?_
          try simp only [Act.put, List.getElem_toArray, List.getElem_cons_zero, List.getElem_cons_succ, List.setIfInBounds_toArray, List.set_cons_zero, List.set_cons_succ]
          refine wpAnyH_take (i := 17) (v := undef) rfl (by kernel_rfl) (by kernel_rfl) (by kernel_rfl) (fun _ _ _ h => h) (Or.inr ⟨by rfl, rfl⟩) (by assumption) ?_
          try simp only [Act.put, List.getElem_toArray, List.getElem_cons_zero, List.getElem_cons_succ, List.setIfInBounds_toArray, List.set_cons_zero, List.set_cons_succ]
          refine wpAnyH_take (i := 18) (v := ?_) rfl (by kernel_rfl) (by kernel_rfl) (by kernel_rfl) (fun _ _ _ h => h) (Or.inl ⟨by rfl, ?_⟩) (by assumption) ?_
          rotate_left 1
          · intro w hSw
            (try dsimp only at hSw)
            go_simp
            all_goals (with_reducible rfl)
          try simp only [Act.put, List.getElem_toArray, List.getElem_cons_zero, List.getElem_cons_succ, List.setIfInBounds_toArray, List.set_cons_zero, List.set_cons_succ]
          refine wpAnyH_done (by kernel_rfl) ?_ _
          go_wp2_with fail
          go_meet
          exact ⟨rfl, ((Below.refl _ _).drew).trans (hba.mono (by simp))⟩
        | true =>
          cases i with
          | zero =>
            obtain rfl : ok = true := HOK.out.symm.trans (pOk_zero (by rw [HP.out]; exact hc))
            go_wp2_with fail
            refine wp_region_held_drew (S := (fun wx => wx.cell? ⟨wr.heap.size, 0, none⟩ = some (.int .u64 (p.key : Int)) ∧ wx.cell? ⟨wr.heap.size, 1, none⟩ = some (.int .i64 p.off) ∧ wx.cell? ⟨wr.heap.size, 2, none⟩ = some (.int .i64 p.len) ∧ wx.cell? ⟨wr.heap.size, 3, none⟩ = some (.int .u32 (p.cookie : Int)) ∧ wx.cell? ⟨wr.heap.size, 4, none⟩ = some (.bool p.gone))) (by kernel_rfl) (K1) (fun hHeld => ?_)
            refine wpAnyH_take (i := 0) (v := ?_) rfl (by kernel_rfl) (by kernel_rfl) (by kernel_rfl) (fun _ _ _ h => h) (Or.inl ⟨by rfl, ?_⟩) (by assumption) ?_
            rotate_left 1
            · intro w hSw
              (try dsimp only at hSw)
              go_simp
              all_goals (with_reducible rfl)
            try simp only [Act.put, List.getElem_toArray, List.getElem_cons_zero, List.getElem_cons_succ, List.setIfInBounds_toArray, List.set_cons_zero, List.set_cons_succ]
            refine wpAnyH_ready (rs := [1]) (by kernel_rfl) (by simp) ?_
            refine AllReadyH.cons rfl (fun K hK => ?_) AllReadyH.nil
            go_simp
            go_at_call 22
            refine (can_any p _).mono ?_
            rintro e wa ⟨rfl, hba⟩
            rw [hc]
            have Ka := PKeep hba (by simp) K1
            go_wp2_with fail
            refine hK.out _ _ (Ka) (fun hHeld => ?_)
            clear hK K
            try simp only [Act.put, List.getElem_toArray, List.getElem_cons_zero, List.getElem_cons_succ, List.setIfInBounds_toArray, List.set_cons_zero, List.set_cons_succ]
            refine wpAnyH_take (i := 2) (v := ?_) rfl (by kernel_rfl) (by kernel_rfl) (by kernel_rfl) (fun _ _ _ h => h) (Or.inl ⟨by rfl, ?_⟩) (by assumption) ?_
            rotate_left 1
            · intro w hSw
              (try dsimp only at hSw)
              go_simp
              all_goals (with_reducible rfl)
            try simp only [Act.put, List.getElem_toArray, List.getElem_cons_zero, List.getElem_cons_succ, List.setIfInBounds_toArray, List.set_cons_zero, List.set_cons_succ]
            refine wpAnyH_take (i := 3) (v := ?_) rfl (by kernel_rfl) (by kernel_rfl) (by kernel_rfl) (fun _ _ _ h => h) (Or.inl ⟨by rfl, ?_⟩) (by assumption) ?_
            rotate_left 1
            · intro w hSw
              (try dsimp only at hSw)
              go_simp
              all_goals (with_reducible rfl)
            try simp only [Act.put, List.getElem_toArray, List.getElem_cons_zero, List.getElem_cons_succ, List.setIfInBounds_toArray, List.set_cons_zero, List.set_cons_succ]
            refine wpAnyH_take (i := 4) (v := ?_) rfl (by kernel_rfl) (by kernel_rfl) (by kernel_rfl) (fun _ _ _ h => h) (Or.inl ⟨by rfl, ?_⟩) (by assumption) ?_
            rotate_left 1
            · intro w hSw
              (try dsimp only at hSw)
              go_simp
              all_goals (with_reducible rfl)
            try simp only [Act.put, List.getElem_toArray, List.getElem_cons_zero, List.getElem_cons_succ, List.setIfInBounds_toArray, List.set_cons_zero, List.set_cons_succ]
            refine wpAnyH_take (i := 5) (v := ?_) rfl (by kernel_rfl) (by kernel_rfl) (by kernel_rfl) (fun _ _ _ h => h) (Or.inl ⟨by rfl, ?_⟩) (by assumption) ?_
            rotate_left 1
            · intro w hSw
              (try dsimp only at hSw)
              go_simp
              all_goals (with_reducible rfl)
            try simp only [Act.put, List.getElem_toArray, List.getElem_cons_zero, List.getElem_cons_succ, List.setIfInBounds_toArray, List.set_cons_zero, List.set_cons_succ]
            refine wpAnyH_take (i := 6) (v := ?_) rfl (by kernel_rfl) (by kernel_rfl) (by kernel_rfl) (fun _ _ _ h => h) (Or.inl ⟨by rfl, ?_⟩) (by assumption) ?_
            rotate_left 1
            · intro w hSw
              (try dsimp only at hSw)
              go_simp
              all_goals (with_reducible rfl)
            try simp only [Act.put, List.getElem_toArray, List.getElem_cons_zero, List.getElem_cons_succ, List.setIfInBounds_toArray, List.set_cons_zero, List.set_cons_succ]
            refine wpAnyH_take (i := 7) (v := undef) rfl (by kernel_rfl) (by kernel_rfl) (by kernel_rfl) (fun _ _ _ h => h) (Or.inr ⟨by rfl, rfl⟩) (by assumption) ?_
            try simp only [Act.put, List.getElem_toArray, List.getElem_cons_zero, List.getElem_cons_succ, List.setIfInBounds_toArray, List.set_cons_zero, List.set_cons_succ]
            refine wpAnyH_take (i := 8) (v := undef) rfl (by kernel_rfl) (by kernel_rfl) (by kernel_rfl) (fun _ _ _ h => h) (Or.inr ⟨by rfl, rfl⟩) (by assumption) ?_
            try simp only [Act.put, List.getElem_toArray, List.getElem_cons_zero, List.getElem_cons_succ, List.setIfInBounds_toArray, List.set_cons_zero, List.set_cons_succ]
            refine wpAnyH_take (i := 9) (v := undef) rfl (by kernel_rfl) (by kernel_rfl) (by kernel_rfl) (fun _ _ _ h => h) (Or.inr ⟨by rfl, rfl⟩) (by assumption) ?_
            try simp only [Act.put, List.getElem_toArray, List.getElem_cons_zero, List.getElem_cons_succ, List.setIfInBounds_toArray, List.set_cons_zero, List.set_cons_succ]
            refine wpAnyH_take (i := 10) (v := undef) rfl (by kernel_rfl) (by kernel_rfl) (by kernel_rfl) (fun _ _ _ h => h) (Or.inr ⟨by rfl, rfl⟩) (by assumption) ?_
            try simp only [Act.put, List.getElem_toArray, List.getElem_cons_zero, List.getElem_cons_succ, List.setIfInBounds_toArray, List.set_cons_zero, List.set_cons_succ]
            refine wpAnyH_take (i := 11) (v := undef) rfl (by kernel_rfl) (by kernel_rfl) (by kernel_rfl) (fun _ _ _ h => h) (Or.inr ⟨by rfl, rfl⟩) (by assumption) ?_
            try simp only [Act.put, List.getElem_toArray, List.getElem_cons_zero, List.getElem_cons_succ, List.setIfInBounds_toArray, List.set_cons_zero, List.set_cons_succ]
            refine wpAnyH_take (i := 12) (v := undef) rfl (by kernel_rfl) (by kernel_rfl) (by kernel_rfl) (fun _ _ _ h => h) (Or.inr ⟨by rfl, rfl⟩) (by assumption) ?_
            try simp only [Act.put, List.getElem_toArray, List.getElem_cons_zero, List.getElem_cons_succ, List.setIfInBounds_toArray, List.set_cons_zero, List.set_cons_succ]
            refine wpAnyH_take (i := 13) (v := undef) rfl (by kernel_rfl) (by kernel_rfl) (by kernel_rfl) (fun _ _ _ h => h) (Or.inr ⟨by rfl, rfl⟩) (by assumption) ?_
            try simp only [Act.put, List.getElem_toArray, List.getElem_cons_zero, List.getElem_cons_succ, List.setIfInBounds_toArray, List.set_cons_zero, List.set_cons_succ]
            refine wpAnyH_take (i := 14) (v := undef) rfl (by kernel_rfl) (by kernel_rfl) (by kernel_rfl) (fun _ _ _ h => h) (Or.inr ⟨by rfl, rfl⟩) (by assumption) ?_
            try simp only [Act.put, List.getElem_toArray, List.getElem_cons_zero, List.getElem_cons_succ, List.setIfInBounds_toArray, List.set_cons_zero, List.set_cons_succ]
            refine wpAnyH_take (i := 15) (v := undef) rfl (by kernel_rfl) (by kernel_rfl) (by kernel_rfl) (fun _ _ _ h => h) (Or.inr ⟨by rfl, rfl⟩) (by assumption) ?_
            try simp only [Act.put, List.getElem_toArray, List.getElem_cons_zero, List.getElem_cons_succ, List.setIfInBounds_toArray, List.set_cons_zero, List.set_cons_succ]
            refine wpAnyH_take (i := 16) (v := undef) rfl (by kernel_rfl) (by kernel_rfl) (by kernel_rfl) (fun _ _ _ h => h) (Or.inr ⟨by rfl, rfl⟩) (by assumption) ?_
            try simp only [Act.put, List.getElem_toArray, List.getElem_cons_zero, List.getElem_cons_succ, List.setIfInBounds_toArray, List.set_cons_zero, List.set_cons_succ]
            refine wpAnyH_take (i := 17) (v := ?_) rfl (by kernel_rfl) (by kernel_rfl) (by kernel_rfl) (fun _ _ _ h => h) (Or.inl ⟨by rfl, ?_⟩) (by assumption) ?_
            rotate_left 1
            · intro w hSw
              (try dsimp only at hSw)
              go_simp
              all_goals (with_reducible rfl)
            try simp only [Act.put, List.getElem_toArray, List.getElem_cons_zero, List.getElem_cons_succ, List.setIfInBounds_toArray, List.set_cons_zero, List.set_cons_succ]
            refine wpAnyH_take (i := 18) (v := ?_) rfl (by kernel_rfl) (by kernel_rfl) (by kernel_rfl) (fun _ _ _ h => h) (Or.inl ⟨by rfl, ?_⟩) (by assumption) ?_
            rotate_left 1
            · intro w hSw
              (try dsimp only at hSw)
              go_simp
              all_goals (with_reducible rfl)
            try simp only [Act.put, List.getElem_toArray, List.getElem_cons_zero, List.getElem_cons_succ, List.setIfInBounds_toArray, List.set_cons_zero, List.set_cons_succ]
            refine wpAnyH_done (by kernel_rfl) ?_ _
            go_wp2_with fail
            go_meet
            exact ⟨rfl, ((Below.refl _ _).drew).trans (hba.mono (by simp))⟩
          | succ j =>
            obtain ⟨q, hq⟩ : ∃ q, pat ps j = q := ⟨_, rfl⟩
            obtain ⟨bq, oq, hidq, hcellq⟩ := indexAt_P HVr.out 32 53 Try.underlying32 Try.sizePos j (by rw [HN.out]; omega)
            have hqb := hcellq.lt
            have hq0 := hcellq.1
            rw [hq] at hq0
            clear hcellq
            have hx3 := HX.out.2.2.2
            have hsb : w.heap.size < wr.heap.size := Nat.lt_of_lt_of_le (by simp) hs
            have e2 : ok = decide (q.key < p.key) := by rw [← HOK.out, pOk_succ (by rw [HP.out]; exact hc), HP.out, hq]
            have L1 : (wr.alloc (.cells #[.int .u64 (p.key : Int), .int .i64 p.off, .int .i64 p.len, .int .u32 (p.cookie : Int), .bool p.gone] 53)).drew.cell? ⟨wr.heap.size, 0, none⟩ = some (.int .u64 (p.key : Int)) ∧ (wr.alloc (.cells #[.int .u64 (p.key : Int), .int .i64 p.off, .int .i64 p.len, .int .u32 (p.cookie : Int), .bool p.gone] 53)).drew.cell? ⟨wr.heap.size, 1, none⟩ = some (.int .i64 p.off) ∧ (wr.alloc (.cells #[.int .u64 (p.key : Int), .int .i64 p.off, .int .i64 p.len, .int .u32 (p.cookie : Int), .bool p.gone] 53)).drew.cell? ⟨wr.heap.size, 2, none⟩ = some (.int .i64 p.len) ∧ (wr.alloc (.cells #[.int .u64 (p.key : Int), .int .i64 p.off, .int .i64 p.len, .int .u32 (p.cookie : Int), .bool p.gone] 53)).drew.cell? ⟨wr.heap.size, 3, none⟩ = some (.int .u32 (p.cookie : Int)) ∧ (wr.alloc (.cells #[.int .u64 (p.key : Int), .int .i64 p.off, .int .i64 p.len, .int .u32 (p.cookie : Int), .bool p.gone] 53)).drew.cell? ⟨wr.heap.size, 4, none⟩ = some (.bool p.gone) ∧ (wr.alloc (.cells #[.int .u64 (p.key : Int), .int .i64 p.off, .int .i64 p.len, .int .u32 (p.cookie : Int), .bool p.gone] 53)).drew.cell? ⟨w.heap.size, 3, none⟩ = some (.slice x N cap) ∧ (wr.alloc (.cells #[.int .u64 (p.key : Int), .int .i64 p.off, .int .i64 p.len, .int .u32 (p.cookie : Int), .bool p.gone] 53)).drew.cell? ⟨bq, oq, none⟩ = some (.int .u64 (q.key : Int)) := ⟨K1.1, K1.2.1, K1.2.2.1, K1.2.2.2.1, K1.2.2.2.2, (HW1.out.cell (p := ⟨w.heap.size, 3, none⟩) hsb).trans hx3, (HW1.out.cell (p := ⟨bq, oq, none⟩) hqb).trans hq0⟩
            clear hq0 hx3 K0
            have hj0 : (0 : Int) < ((j + 1 : Nat) : Int) := by omega
            have hwj : IntKind.i64.wrap (j : Int) = (j : Int) := by rw [IntKind.wrap_i64]; omega
            by_cases hkey : q.key < p.key
            · obtain rfl : ok = true := e2.trans (decide_eq_true hkey)
              clear e2
              have hd : decide ((p.key : Int) ≤ (q.key : Int)) = false := decide_eq_false (by omega)
              go_wp2_with fail
              refine wp_region_held_drew (S := (fun wx => wx.cell? ⟨wr.heap.size, 0, none⟩ = some (.int .u64 (p.key : Int)) ∧ wx.cell? ⟨wr.heap.size, 1, none⟩ = some (.int .i64 p.off) ∧ wx.cell? ⟨wr.heap.size, 2, none⟩ = some (.int .i64 p.len) ∧ wx.cell? ⟨wr.heap.size, 3, none⟩ = some (.int .u32 (p.cookie : Int)) ∧ wx.cell? ⟨wr.heap.size, 4, none⟩ = some (.bool p.gone) ∧ wx.cell? ⟨w.heap.size, 3, none⟩ = some (.slice x N cap) ∧ wx.cell? ⟨bq, oq, none⟩ = some (.int .u64 (q.key : Int)))) (by kernel_rfl) (L1) (fun hHeld => ?_)
              refine wpAnyH_take (i := 0) (v := ?_) rfl (by kernel_rfl) (by kernel_rfl) (by kernel_rfl) (fun _ _ _ h => h) (Or.inl ⟨by rfl, ?_⟩) (by assumption) ?_
              rotate_left 1
              · intro w hSw
                (try dsimp only at hSw)
                go_simp
                all_goals (with_reducible rfl)
              try simp only [Act.put, List.getElem_toArray, List.getElem_cons_zero, List.getElem_cons_succ, List.setIfInBounds_toArray, List.set_cons_zero, List.set_cons_succ]
              refine wpAnyH_ready (rs := [1]) (by kernel_rfl) (by simp) ?_
              refine AllReadyH.cons rfl (fun K hK => ?_) AllReadyH.nil
              go_simp
              go_at_call 22
              refine (can_any p _).mono ?_
              rintro e wa ⟨rfl, hba⟩
              rw [hc]
              have Kp := PKeep hba (by simp) K1
              have Ka := And.intro Kp.1 (And.intro Kp.2.1 (And.intro Kp.2.2.1 (And.intro Kp.2.2.2.1 (And.intro Kp.2.2.2.2 (And.intro ((hba.cell (p := ⟨w.heap.size, 3, none⟩) (by simp; omega)).trans L1.2.2.2.2.2.1) ((hba.cell (p := ⟨bq, oq, none⟩) (by simp; omega)).trans L1.2.2.2.2.2.2))))))
              go_wp2_with fail
              refine hK.out _ _ (Ka) (fun hHeld => ?_)
              clear hK K
              try simp only [Act.put, List.getElem_toArray, List.getElem_cons_zero, List.getElem_cons_succ, List.setIfInBounds_toArray, List.set_cons_zero, List.set_cons_succ]
              refine wpAnyH_take (i := 2) (v := ?_) rfl (by kernel_rfl) (by kernel_rfl) (by kernel_rfl) (fun _ _ _ h => h) (Or.inl ⟨by rfl, ?_⟩) (by assumption) ?_
              rotate_left 1
              · intro w hSw
                (try dsimp only at hSw)
                go_simp
                all_goals (with_reducible rfl)
              try simp only [Act.put, List.getElem_toArray, List.getElem_cons_zero, List.getElem_cons_succ, List.setIfInBounds_toArray, List.set_cons_zero, List.set_cons_succ]
              refine wpAnyH_take (i := 3) (v := ?_) rfl (by kernel_rfl) (by kernel_rfl) (by kernel_rfl) (fun _ _ _ h => h) (Or.inl ⟨by rfl, ?_⟩) (by assumption) ?_
              rotate_left 1
              · intro w hSw
                (try dsimp only at hSw)
                go_simp
                all_goals (with_reducible rfl)
              try simp only [Act.put, List.getElem_toArray, List.getElem_cons_zero, List.getElem_cons_succ, List.setIfInBounds_toArray, List.set_cons_zero, List.set_cons_succ]
              refine wpAnyH_take (i := 4) (v := ?_) rfl (by kernel_rfl) (by kernel_rfl) (by kernel_rfl) (fun _ _ _ h => h) (Or.inl ⟨by rfl, ?_⟩) (by assumption) ?_
              rotate_left 1
              · intro w hSw
                (try dsimp only at hSw)
                go_simp
                all_goals (with_reducible rfl)
              try simp only [Act.put, List.getElem_toArray, List.getElem_cons_zero, List.getElem_cons_succ, List.setIfInBounds_toArray, List.set_cons_zero, List.set_cons_succ]
              refine wpAnyH_take (i := 5) (v := ?_) rfl (by kernel_rfl) (by kernel_rfl) (by kernel_rfl) (fun _ _ _ h => h) (Or.inl ⟨by rfl, ?_⟩) (by assumption) ?_
              rotate_left 1
              · intro w hSw
                (try dsimp only at hSw)
                go_simp
                all_goals (with_reducible rfl)
              try simp only [Act.put, List.getElem_toArray, List.getElem_cons_zero, List.getElem_cons_succ, List.setIfInBounds_toArray, List.set_cons_zero, List.set_cons_succ]
              refine wpAnyH_take (i := 6) (v := ?_) rfl (by kernel_rfl) (by kernel_rfl) (by kernel_rfl) (fun _ _ _ h => h) (Or.inl ⟨by rfl, ?_⟩) (by assumption) ?_
              rotate_left 1
              · intro w hSw
                (try dsimp only at hSw)
                go_simp
                all_goals (with_reducible rfl)
              try simp only [Act.put, List.getElem_toArray, List.getElem_cons_zero, List.getElem_cons_succ, List.setIfInBounds_toArray, List.set_cons_zero, List.set_cons_succ]
              refine wpAnyH_take (i := 7) (v := ?_) rfl (by kernel_rfl) (by kernel_rfl) (by kernel_rfl) (fun _ _ _ h => h) (Or.inl ⟨by rfl, ?_⟩) (by assumption) ?_
              rotate_left 1
              · intro w hSw
                (try dsimp only at hSw)
                go_simp
                all_goals (with_reducible rfl)
              try simp only [Act.put, List.getElem_toArray, List.getElem_cons_zero, List.getElem_cons_succ, List.setIfInBounds_toArray, List.set_cons_zero, List.set_cons_succ]
              refine wpAnyH_take (i := 8) (v := ?_) rfl (by kernel_rfl) (by kernel_rfl) (by kernel_rfl) (fun _ _ _ h => h) (Or.inl ⟨by rfl, ?_⟩) (by assumption) ?_
              rotate_left 1
              · intro w hSw
                (try dsimp only at hSw)
                go_simp
                all_goals (with_reducible rfl)
              try simp only [Act.put, List.getElem_toArray, List.getElem_cons_zero, List.getElem_cons_succ, List.setIfInBounds_toArray, List.set_cons_zero, List.set_cons_succ]
              refine wpAnyH_take (i := 9) (v := ?_) rfl (by kernel_rfl) (by kernel_rfl) (by kernel_rfl) (fun _ _ _ h => h) (Or.inl ⟨by rfl, ?_⟩) (by assumption) ?_
              rotate_left 1
              · intro w hSw
                (try dsimp only at hSw)
                go_simp
                all_goals (with_reducible rfl)
              try simp only [Act.put, List.getElem_toArray, List.getElem_cons_zero, List.getElem_cons_succ, List.setIfInBounds_toArray, List.set_cons_zero, List.set_cons_succ]
              refine wpAnyH_take (i := 10) (v := ?_) rfl (by kernel_rfl) (by kernel_rfl) (by kernel_rfl) (fun _ _ _ h => h) (Or.inl ⟨by rfl, ?_⟩) (by assumption) ?_
              rotate_left 1
              · intro w hSw
                (try dsimp only at hSw)
                go_simp
                all_goals (with_reducible rfl)
              try simp only [Act.put, List.getElem_toArray, List.getElem_cons_zero, List.getElem_cons_succ, List.setIfInBounds_toArray, List.set_cons_zero, List.set_cons_succ]
              refine wpAnyH_take (i := 11) (v := ?_) rfl (by kernel_rfl) (by kernel_rfl) (by kernel_rfl) (fun _ _ _ h => h) (Or.inl ⟨by rfl, ?_⟩) (by assumption) ?_
              rotate_left 1
              · intro w hSw
                (try dsimp only at hSw)
                go_simp
                all_goals (with_reducible rfl)
              try simp only [Act.put, List.getElem_toArray, List.getElem_cons_zero, List.getElem_cons_succ, List.setIfInBounds_toArray, List.set_cons_zero, List.set_cons_succ]
              refine wpAnyH_take (i := 12) (v := ?_) rfl (by kernel_rfl) (by kernel_rfl) (by kernel_rfl) (fun _ _ _ h => h) (Or.inl ⟨by rfl, ?_⟩) (by assumption) ?_
              rotate_left 1
              · intro w hSw
                (try dsimp only at hSw)
                go_simp
                all_goals (with_reducible rfl)
              try simp only [Act.put, List.getElem_toArray, List.getElem_cons_zero, List.getElem_cons_succ, List.setIfInBounds_toArray, List.set_cons_zero, List.set_cons_succ]
              refine wpAnyH_take (i := 13) (v := ?_) rfl (by kernel_rfl) (by kernel_rfl) (by kernel_rfl) (fun _ _ _ h => h) (Or.inl ⟨by rfl, ?_⟩) (by assumption) ?_
              rotate_left 1
              · intro w hSw
                (try dsimp only at hSw)
                go_simp
                all_goals (with_reducible rfl)
              try simp only [Act.put, List.getElem_toArray, List.getElem_cons_zero, List.getElem_cons_succ, List.setIfInBounds_toArray, List.set_cons_zero, List.set_cons_succ]
              refine wpAnyH_take (i := 14) (v := ?_) rfl (by kernel_rfl) (by kernel_rfl) (by kernel_rfl) (fun _ _ _ h => h) (Or.inl ⟨by rfl, ?_⟩) (by assumption) ?_
              rotate_left 1
              · intro w hSw
                (try dsimp only at hSw)
                go_simp
                all_goals (with_reducible rfl)
              try simp only [Act.put, List.getElem_toArray, List.getElem_cons_zero, List.getElem_cons_succ, List.setIfInBounds_toArray, List.set_cons_zero, List.set_cons_succ]
              refine wpAnyH_take (i := 15) (v := ?_) rfl (by kernel_rfl) (by kernel_rfl) (by kernel_rfl) (fun _ _ _ h => h) (Or.inl ⟨by rfl, ?_⟩) (by assumption) ?_
              rotate_left 1
              · intro w hSw
                (try dsimp only at hSw)
                go_simp
                all_goals (with_reducible rfl)
              try simp only [Act.put, List.getElem_toArray, List.getElem_cons_zero, List.getElem_cons_succ, List.setIfInBounds_toArray, List.set_cons_zero, List.set_cons_succ]
              refine wpAnyH_take (i := 16) (v := ?_) rfl (by kernel_rfl) (by kernel_rfl) (by kernel_rfl) (fun _ _ _ h => h) (Or.inl ⟨by rfl, ?_⟩) (by assumption) ?_
              rotate_left 1
              · intro w hSw
                (try dsimp only at hSw)
                go_simp
                all_goals (with_reducible rfl)
              try simp only [Act.put, List.getElem_toArray, List.getElem_cons_zero, List.getElem_cons_succ, List.setIfInBounds_toArray, List.set_cons_zero, List.set_cons_succ]
              refine wpAnyH_take (i := 17) (v := ?_) rfl (by kernel_rfl) (by kernel_rfl) (by kernel_rfl) (fun _ _ _ h => h) (Or.inl ⟨by rfl, ?_⟩) (by assumption) ?_
              rotate_left 1
              · intro w hSw
                (try dsimp only at hSw)
                go_simp
                all_goals (with_reducible rfl)
              try simp only [Act.put, List.getElem_toArray, List.getElem_cons_zero, List.getElem_cons_succ, List.setIfInBounds_toArray, List.set_cons_zero, List.set_cons_succ]
              refine wpAnyH_take (i := 18) (v := ?_) rfl (by kernel_rfl) (by kernel_rfl) (by kernel_rfl) (fun _ _ _ h => h) (Or.inl ⟨by rfl, ?_⟩) (by assumption) ?_
              rotate_left 1
              · intro w hSw
                (try dsimp only at hSw)
                go_simp
                all_goals (with_reducible rfl)
              try simp only [Act.put, List.getElem_toArray, List.getElem_cons_zero, List.getElem_cons_succ, List.setIfInBounds_toArray, List.set_cons_zero, List.set_cons_succ]
              refine wpAnyH_done (by kernel_rfl) ?_ _
              go_wp2_with fail
              go_meet
              exact ⟨congrArg Value.bool (decide_eq_false (by omega)), ((Below.refl _ _).drew).trans (hba.mono (by simp))⟩
            · obtain rfl : ok = false := e2.trans (decide_eq_false hkey)
              clear e2
              have hd : decide ((p.key : Int) ≤ (q.key : Int)) = true := decide_eq_true (by omega)
              go_wp2_with fail
              refine wp_region_held_drew (S := (fun wx => wx.cell? ⟨wr.heap.size, 0, none⟩ = some (.int .u64 (p.key : Int)) ∧ wx.cell? ⟨wr.heap.size, 1, none⟩ = some (.int .i64 p.off) ∧ wx.cell? ⟨wr.heap.size, 2, none⟩ = some (.int .i64 p.len) ∧ wx.cell? ⟨wr.heap.size, 3, none⟩ = some (.int .u32 (p.cookie : Int)) ∧ wx.cell? ⟨wr.heap.size, 4, none⟩ = some (.bool p.gone) ∧ wx.cell? ⟨w.heap.size, 3, none⟩ = some (.slice x N cap) ∧ wx.cell? ⟨bq, oq, none⟩ = some (.int .u64 (q.key : Int)))) (by kernel_rfl) (L1) (fun hHeld => ?_)
              refine wpAnyH_take (i := 0) (v := ?_) rfl (by kernel_rfl) (by kernel_rfl) (by kernel_rfl) (fun _ _ _ h => h) (Or.inl ⟨by rfl, ?_⟩) (by assumption) ?_
              rotate_left 1
              · intro w hSw
                (try dsimp only at hSw)
                go_simp
                all_goals (with_reducible rfl)
              try simp only [Act.put, List.getElem_toArray, List.getElem_cons_zero, List.getElem_cons_succ, List.setIfInBounds_toArray, List.set_cons_zero, List.set_cons_succ]
              refine wpAnyH_ready (rs := [1]) (by kernel_rfl) (by simp) ?_
              refine AllReadyH.cons rfl (fun K hK => ?_) AllReadyH.nil
              go_simp
              go_at_call 22
              refine (can_any p _).mono ?_
              rintro e wa ⟨rfl, hba⟩
              rw [hc]
              have Kp := PKeep hba (by simp) K1
              have Ka := And.intro Kp.1 (And.intro Kp.2.1 (And.intro Kp.2.2.1 (And.intro Kp.2.2.2.1 (And.intro Kp.2.2.2.2 (And.intro ((hba.cell (p := ⟨w.heap.size, 3, none⟩) (by simp; omega)).trans L1.2.2.2.2.2.1) ((hba.cell (p := ⟨bq, oq, none⟩) (by simp; omega)).trans L1.2.2.2.2.2.2))))))
              go_wp2_with fail
              refine hK.out _ _ (Ka) (fun hHeld => ?_)
              clear hK K
              try simp only [Act.put, List.getElem_toArray, List.getElem_cons_zero, List.getElem_cons_succ, List.setIfInBounds_toArray, List.set_cons_zero, List.set_cons_succ]
              refine wpAnyH_take (i := 2) (v := ?_) rfl (by kernel_rfl) (by kernel_rfl) (by kernel_rfl) (fun _ _ _ h => h) (Or.inl ⟨by rfl, ?_⟩) (by assumption) ?_
              rotate_left 1
              · intro w hSw
                (try dsimp only at hSw)
                go_simp
                all_goals (with_reducible rfl)
              try simp only [Act.put, List.getElem_toArray, List.getElem_cons_zero, List.getElem_cons_succ, List.setIfInBounds_toArray, List.set_cons_zero, List.set_cons_succ]
              refine wpAnyH_take (i := 3) (v := ?_) rfl (by kernel_rfl) (by kernel_rfl) (by kernel_rfl) (fun _ _ _ h => h) (Or.inl ⟨by rfl, ?_⟩) (by assumption) ?_
              rotate_left 1
              · intro w hSw
                (try dsimp only at hSw)
                go_simp
                all_goals (with_reducible rfl)
              try simp only [Act.put, List.getElem_toArray, List.getElem_cons_zero, List.getElem_cons_succ, List.setIfInBounds_toArray, List.set_cons_zero, List.set_cons_succ]
              refine wpAnyH_take (i := 4) (v := ?_) rfl (by kernel_rfl) (by kernel_rfl) (by kernel_rfl) (fun _ _ _ h => h) (Or.inl ⟨by rfl, ?_⟩) (by assumption) ?_
              rotate_left 1
              · intro w hSw
                (try dsimp only at hSw)
                go_simp
                all_goals (with_reducible rfl)
              try simp only [Act.put, List.getElem_toArray, List.getElem_cons_zero, List.getElem_cons_succ, List.setIfInBounds_toArray, List.set_cons_zero, List.set_cons_succ]
              refine wpAnyH_take (i := 5) (v := ?_) rfl (by kernel_rfl) (by kernel_rfl) (by kernel_rfl) (fun _ _ _ h => h) (Or.inl ⟨by rfl, ?_⟩) (by assumption) ?_
              rotate_left 1
              · intro w hSw
                (try dsimp only at hSw)
                go_simp
                all_goals (with_reducible rfl)
              try simp only [Act.put, List.getElem_toArray, List.getElem_cons_zero, List.getElem_cons_succ, List.setIfInBounds_toArray, List.set_cons_zero, List.set_cons_succ]
              refine wpAnyH_take (i := 6) (v := ?_) rfl (by kernel_rfl) (by kernel_rfl) (by kernel_rfl) (fun _ _ _ h => h) (Or.inl ⟨by rfl, ?_⟩) (by assumption) ?_
              rotate_left 1
              · intro w hSw
                (try dsimp only at hSw)
                go_simp
                all_goals (with_reducible rfl)
              try simp only [Act.put, List.getElem_toArray, List.getElem_cons_zero, List.getElem_cons_succ, List.setIfInBounds_toArray, List.set_cons_zero, List.set_cons_succ]
              refine wpAnyH_take (i := 7) (v := ?_) rfl (by kernel_rfl) (by kernel_rfl) (by kernel_rfl) (fun _ _ _ h => h) (Or.inl ⟨by rfl, ?_⟩) (by assumption) ?_
              rotate_left 1
              · intro w hSw
                (try dsimp only at hSw)
                go_simp
                all_goals (with_reducible rfl)
              try simp only [Act.put, List.getElem_toArray, List.getElem_cons_zero, List.getElem_cons_succ, List.setIfInBounds_toArray, List.set_cons_zero, List.set_cons_succ]
              refine wpAnyH_take (i := 8) (v := ?_) rfl (by kernel_rfl) (by kernel_rfl) (by kernel_rfl) (fun _ _ _ h => h) (Or.inl ⟨by rfl, ?_⟩) (by assumption) ?_
              rotate_left 1
              · intro w hSw
                (try dsimp only at hSw)
                go_simp
                all_goals (with_reducible rfl)
              try simp only [Act.put, List.getElem_toArray, List.getElem_cons_zero, List.getElem_cons_succ, List.setIfInBounds_toArray, List.set_cons_zero, List.set_cons_succ]
              refine wpAnyH_take (i := 9) (v := ?_) rfl (by kernel_rfl) (by kernel_rfl) (by kernel_rfl) (fun _ _ _ h => h) (Or.inl ⟨by rfl, ?_⟩) (by assumption) ?_
              rotate_left 1
              · intro w hSw
                (try dsimp only at hSw)
                go_simp
                all_goals (with_reducible rfl)
              try simp only [Act.put, List.getElem_toArray, List.getElem_cons_zero, List.getElem_cons_succ, List.setIfInBounds_toArray, List.set_cons_zero, List.set_cons_succ]
              refine wpAnyH_take (i := 10) (v := ?_) rfl (by kernel_rfl) (by kernel_rfl) (by kernel_rfl) (fun _ _ _ h => h) (Or.inl ⟨by rfl, ?_⟩) (by assumption) ?_
              rotate_left 1
              · intro w hSw
                (try dsimp only at hSw)
                go_simp
                all_goals (with_reducible rfl)
              try simp only [Act.put, List.getElem_toArray, List.getElem_cons_zero, List.getElem_cons_succ, List.setIfInBounds_toArray, List.set_cons_zero, List.set_cons_succ]
              refine wpAnyH_take (i := 11) (v := ?_) rfl (by kernel_rfl) (by kernel_rfl) (by kernel_rfl) (fun _ _ _ h => h) (Or.inl ⟨by rfl, ?_⟩) (by assumption) ?_
              rotate_left 1
              · intro w hSw
                (try dsimp only at hSw)
                go_simp
                all_goals (with_reducible rfl)
              try simp only [Act.put, List.getElem_toArray, List.getElem_cons_zero, List.getElem_cons_succ, List.setIfInBounds_toArray, List.set_cons_zero, List.set_cons_succ]
              refine wpAnyH_take (i := 12) (v := ?_) rfl (by kernel_rfl) (by kernel_rfl) (by kernel_rfl) (fun _ _ _ h => h) (Or.inl ⟨by rfl, ?_⟩) (by assumption) ?_
              rotate_left 1
              · intro w hSw
                (try dsimp only at hSw)
                go_simp
                all_goals (with_reducible rfl)
              try simp only [Act.put, List.getElem_toArray, List.getElem_cons_zero, List.getElem_cons_succ, List.setIfInBounds_toArray, List.set_cons_zero, List.set_cons_succ]
              refine wpAnyH_take (i := 13) (v := ?_) rfl (by kernel_rfl) (by kernel_rfl) (by kernel_rfl) (fun _ _ _ h => h) (Or.inl ⟨by rfl, ?_⟩) (by assumption) ?_
              rotate_left 1
              · intro w hSw
                (try dsimp only at hSw)
                go_simp
                all_goals (with_reducible rfl)
              try simp only [Act.put, List.getElem_toArray, List.getElem_cons_zero, List.getElem_cons_succ, List.setIfInBounds_toArray, List.set_cons_zero, List.set_cons_succ]
              refine wpAnyH_take (i := 14) (v := ?_) rfl (by kernel_rfl) (by kernel_rfl) (by kernel_rfl) (fun _ _ _ h => h) (Or.inl ⟨by rfl, ?_⟩) (by assumption) ?_
              rotate_left 1
              · intro w hSw
                (try dsimp only at hSw)
                go_simp
                all_goals (with_reducible rfl)
              try simp only [Act.put, List.getElem_toArray, List.getElem_cons_zero, List.getElem_cons_succ, List.setIfInBounds_toArray, List.set_cons_zero, List.set_cons_succ]
              refine wpAnyH_take (i := 15) (v := ?_) rfl (by kernel_rfl) (by kernel_rfl) (by kernel_rfl) (fun _ _ _ h => h) (Or.inl ⟨by rfl, ?_⟩) (by assumption) ?_
              rotate_left 1
              · intro w hSw
                (try dsimp only at hSw)
                go_simp
                all_goals (with_reducible rfl)
              try simp only [Act.put, List.getElem_toArray, List.getElem_cons_zero, List.getElem_cons_succ, List.setIfInBounds_toArray, List.set_cons_zero, List.set_cons_succ]
              refine wpAnyH_take (i := 16) (v := ?_) rfl (by kernel_rfl) (by kernel_rfl) (by kernel_rfl) (fun _ _ _ h => h) (Or.inl ⟨by rfl, ?_⟩) (by assumption) ?_
              rotate_left 1
              · intro w hSw
                (try dsimp only at hSw)
                go_simp
                all_goals (with_reducible rfl)
              try simp only [Act.put, List.getElem_toArray, List.getElem_cons_zero, List.getElem_cons_succ, List.setIfInBounds_toArray, List.set_cons_zero, List.set_cons_succ]
              refine wpAnyH_take (i := 17) (v := ?_) rfl (by kernel_rfl) (by kernel_rfl) (by kernel_rfl) (fun _ _ _ h => h) (Or.inl ⟨by rfl, ?_⟩) (by assumption) ?_
              rotate_left 1
              · intro w hSw
                (try dsimp only at hSw)
                go_simp
                all_goals (with_reducible rfl)
              try simp only [Act.put, List.getElem_toArray, List.getElem_cons_zero, List.getElem_cons_succ, List.setIfInBounds_toArray, List.set_cons_zero, List.set_cons_succ]
              refine wpAnyH_take (i := 18) (v := ?_) rfl (by kernel_rfl) (by kernel_rfl) (by kernel_rfl) (fun _ _ _ h => h) (Or.inl ⟨by rfl, ?_⟩) (by assumption) ?_
              rotate_left 1
              · intro w hSw
                (try dsimp only at hSw)
                go_simp
                all_goals (with_reducible rfl)
              try simp only [Act.put, List.getElem_toArray, List.getElem_cons_zero, List.getElem_cons_succ, List.setIfInBounds_toArray, List.set_cons_zero, List.set_cons_succ]
              refine wpAnyH_done (by kernel_rfl) ?_ _
              go_wp2_with fail
              go_meet
              exact ⟨congrArg Value.bool (decide_eq_true (by omega)), ((Below.refl _ _).drew).trans (hba.mono (by simp))⟩
      case rest =>
      obtain ⟨rfl, hbc⟩ := hcut
      have HW2 := Lib.hid (HW1.out.trans (hbc.mono (by simp)))
      clear hbc HW1 k0 k1 k2 k3 k4
      cases ok with
      | true =>
        go_wp2
        go_roundw
        case rel => exact ⟨i + 1, by omega, by go_num, Lib.hid (fun j hj => by
          by_cases hji : j < i
          · exact hK.out j hji
          · obtain rfl : j = i := by omega
            exact HOK.out), Lib.hid (hB.out.trans (HW2.out.mono (by simpa using hs)))⟩
        case measure => simp [intOf]; omega
      | false =>
        have HE := Lib.hid (HRV.out.trans (if_neg (by rw [lOk_no (by rw [HN.out]; exact hlt) HOK.out]; exact Bool.false_ne_true)))
        go_wp2
        go_ret
        exact ⟨congrArg _ HE.out.symm, HB0.out.trans (HW2.out.mono HB0.out.size)⟩
    · obtain rfl : N = i := by omega
      have e : lOk ps = true := lOk_of fun j hj => hK.out j (by rw [← HN.out]; exact hj)
      have HE := Lib.hid (HRV.out.trans (if_pos e))
      clear e
      go_wp2
      go_ret
      exact ⟨congrArg _ HE.out.symm, HB0.out⟩

theorem right_any (c : Chk) (v : Value) (w : World) (hv : IsP w v c.l) :
    Calls Try.prog 10 #[cval c v] w fun e w' => e = .returned (cerr (cright c)) ∧ Below w.heap.size w w' := by
  obtain ⟨a, b, d, ps⟩ := c
  by_cases hl : 4096 < ps.length
  · rw [cright_long hl]
    exact right_long a b d ps v w hv hl
  · cases hh : hOk a b d with
    | false =>
      rw [cright_head (by show ps.length ≤ 4096; omega) hh]
      exact right_head a b d ps v w hv (by omega) hh
    | true =>
      refine (right_list a b d ps v w hv (by omega) hh).mono ?_
      rintro e w' ⟨rfl, hb⟩
      refine ⟨?_, hb⟩
      cases ho : lOk ps with
      | true => rw [cright_of (by show ps.length ≤ 4096; omega) hh ho]; rfl
      | false => rw [cright_list (by show ps.length ≤ 4096; omega) ho]; rfl

end Go.Proofs.Ytengfglopagdmaa
