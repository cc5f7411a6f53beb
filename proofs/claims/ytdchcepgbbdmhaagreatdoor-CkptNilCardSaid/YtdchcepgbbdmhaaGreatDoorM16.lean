/- Right, Laid, Cput. -/
import Derived.Test.YtdchcepgbbdmhaaGreatDoorM15
import Derived.Maps.AppendAt
import Derived.Test.YtdchcepgbbdmhaaGreatDoorM5

section
namespace Go.Proofs.YtdchcepgbbdmhaaGreatDoor.Ck
open Go.RowKit Go.Cor Go.Proofs.YtdchcepgbbdmhaaGreatDoor.Nd

/-- A checkpoint in a box of its own. -/
def BoxC (w : World) (g : Nat) (a b d : Int) (v : Value) : Prop :=
  w.cell? ⟨g, 0, none⟩ = some (.int .i64 a) ∧ w.cell? ⟨g, 1, none⟩ = some (.int .i64 b) ∧ w.cell? ⟨g, 2, none⟩ = some (.int .i64 d) ∧ w.cell? ⟨g, 3, none⟩ = some v
theorem BoxC.mono {w w' : World} {g B : Nat} {a b d : Int} {v : Value} (h : BoxC w g a b d v) (hb : Below B w w') (hg : g < B) : BoxC w' g a b d v :=
  ⟨(hb.cell (p := ⟨g, 0, none⟩) hg).trans h.1, (hb.cell (p := ⟨g, 1, none⟩) hg).trans h.2.1, (hb.cell (p := ⟨g, 2, none⟩) hg).trans h.2.2.1, (hb.cell (p := ⟨g, 3, none⟩) hg).trans h.2.2.2⟩
theorem BoxC.new (w : World) (a b d : Int) (v : Value) (T : TypeId) : BoxC (w.alloc (.cells #[.int .i64 a, .int .i64 b, .int .i64 d, v] T)) w.heap.size a b d v := by
  refine ⟨?_, ?_, ?_, ?_⟩ <;> go_simp

theorem hOk_inB (v g u : Int) : hOk v g u = (inB v 1 65535 && (inB g 1 2147483647 && inB u 0 16777216)) := by
  unfold hOk inB
  rw [Bool.eq_iff_iff]
  simp only [decide_eq_true_eq, Bool.and_eq_true]
  omega

set_option maxHeartbeats 1000000 in
theorem right_head (a b d : Int) (ps : List Pos) (v : Value) (w : World) (hv : IsP w v ps) (hl : ps.length ≤ 4096) (hh : hOk a b d = false) :
    Calls Tryz.prog 114 #[cval ⟨a, b, d, ps⟩ v] w fun e w' => e = .returned (err 1) ∧ Below w.heap.size w w' := by
  obtain ⟨N, hN⟩ : ∃ N, ps.length = N := ⟨_, rfl⟩
  obtain ⟨x, cap, rfl, hlc, hcm⟩ := hv.at_len hN
  rw [hN] at hl
  rw [hOk_inB] at hh
  clear hv hN
  cases h1 : inB a 1 65535 with
  | false =>
    clear hh
    go_enter Tryz.func114, Tryz.ntmps114
    go_wp2_with (go_at_call 134; refine (within_any _ _ _ _).mono ?_; rintro e w' ⟨rfl, rfl⟩; rw [h1])
    go_ret
    exact ⟨rfl, (Below.refl _ _).alloc (Nat.le_refl _) _⟩
  | true =>
    cases h2 : inB b 1 2147483647 with
    | false =>
      clear hh
      go_enter Tryz.func114, Tryz.ntmps114
      go_wp2_with (go_at_call 134; refine (within_any _ _ _ _).mono ?_; rintro e w' ⟨rfl, rfl⟩; first | rw [h1] | rw [h2])
      go_ret
      exact ⟨rfl, (Below.refl _ _).alloc (Nat.le_refl _) _⟩
    | true =>
      rw [h1, h2, Bool.true_and, Bool.true_and] at hh
      go_enter Tryz.func114, Tryz.ntmps114
      go_wp2_with (go_at_call 134; refine (within_any _ _ _ _).mono ?_; rintro e w' ⟨rfl, rfl⟩; first | rw [h1] | rw [h2] | rw [hh])
      go_ret
      exact ⟨rfl, (Below.refl _ _).alloc (Nat.le_refl _) _⟩

theorem right_long (a b d : Int) (ps : List Pos) (v : Value) (w : World) (hv : IsP w v ps) (hl : 4096 < ps.length) :
    Calls Tryz.prog 114 #[cval ⟨a, b, d, ps⟩ v] w fun e w' => e = .returned (err 2) ∧ Below w.heap.size w w' := by
  obtain ⟨N, hN⟩ : ∃ N, ps.length = N := ⟨_, rfl⟩
  obtain ⟨x, cap, rfl, hlc, hcm⟩ := hv.at_len hN
  rw [hN] at hl
  have h' : (4096 : Int) < (N : Int) := by omega
  clear hv hN
  go_enter Tryz.func114, Tryz.ntmps114
  go_wp2
  go_ret
  exact ⟨rfl, (Below.refl _ _).alloc (Nat.le_refl _) _⟩

theorem pOk_can {ps : List Pos} {i : Nat} (h : pcan (pat ps i) = false) : pOk ps i = false := by unfold pOk; rw [h]; rfl
theorem pOk_zero {ps : List Pos} (h : pcan (pat ps 0) = true) : pOk ps 0 = true := by unfold pOk; rw [h, Bool.true_and]; exact decide_eq_true (.inl rfl)
theorem pOk_succ {ps : List Pos} {i : Nat} (h : pcan (pat ps (i + 1)) = true) : pOk ps (i + 1) = decide ((pat ps i).key < (pat ps (i + 1)).key) := by
  unfold pOk kOk
  rw [h, Bool.true_and, Nat.add_sub_cancel]
  simp

theorem PKeep {wz wa : World} {b : Nat} {v0 v1 v2 v3 v4 : Value} (hb : Below wz.heap.size wz wa) (hl : b < wz.heap.size)
    (K : wz.cell? ⟨b, 0, none⟩ = some v0 ∧ wz.cell? ⟨b, 1, none⟩ = some v1 ∧ wz.cell? ⟨b, 2, none⟩ = some v2 ∧ wz.cell? ⟨b, 3, none⟩ = some v3 ∧ wz.cell? ⟨b, 4, none⟩ = some v4) :
    wa.cell? ⟨b, 0, none⟩ = some v0 ∧ wa.cell? ⟨b, 1, none⟩ = some v1 ∧ wa.cell? ⟨b, 2, none⟩ = some v2 ∧ wa.cell? ⟨b, 3, none⟩ = some v3 ∧ wa.cell? ⟨b, 4, none⟩ = some v4 :=
  ⟨(hb.cell hl).trans K.1, (hb.cell hl).trans K.2.1, (hb.cell hl).trans K.2.2.1, (hb.cell hl).trans K.2.2.2.1, (hb.cell hl).trans K.2.2.2.2⟩
set_option maxRecDepth 100000 in
set_option maxHeartbeats 4000000 in
theorem right_list (a b d : Int) (ps : List Pos) (v : Value) (w : World) (hv : IsP w v ps) (hl : ps.length ≤ 4096) (hh : hOk a b d = true) :
    Calls Tryz.prog 114 #[cval ⟨a, b, d, ps⟩ v] w fun e w' => e = .returned (if lOk ps = true then .nilIface else err 1) ∧ Below w.heap.size w w' := by
  obtain ⟨N, hN⟩ : ∃ N, ps.length = N := ⟨_, rfl⟩
  have HV := Lib.hid hv
  obtain ⟨x, cap, rfl, hlc, hcm⟩ := hv.at_len hN
  rw [hN] at hl
  have HN := Lib.hid hN
  rw [hOk_inB, Bool.and_eq_true, Bool.and_eq_true] at hh
  obtain ⟨h1, h2, h3⟩ := hh
  obtain ⟨rv, hrv⟩ : ∃ rv, rv = (if lOk ps = true then Value.nilIface else err 1) := ⟨_, rfl⟩
  rw [← hrv]
  have HRV := Lib.hid hrv
  clear hv hN hrv
  go_enter Tryz.func114, Tryz.ntmps114
  go_wp2_with (go_at_call 134; refine (within_any _ _ _ _).mono ?_; rintro e w' ⟨rfl, rfl⟩; first | rw [h1] | rw [h2] | rw [h3])
  clear h1 h2 h3
  go_loopw [30] (fun k wr => ∃ i : Nat, i ≤ N ∧ k = .int .i64 i ∧ Hid (∀ j, j < i → pOk ps j = true) ∧ Hid (Below (w.heap.size + 1) (w.alloc (.cells #[.int .i64 a, .int .i64 b, .int .i64 d, .slice x N cap] 67)) wr)) (fun k _ => N - (intOf k).toNat)
  case atStart => exact ⟨0, by omega, rfl, Lib.hid (fun j hj => by omega), Lib.hid (Below.refl _ _)⟩
  case round =>
    obtain ⟨i, hi, rfl, hK, hB⟩ := hrel
    have HB0 := Lib.hid (((Below.refl w.heap.size w).alloc (Nat.le_refl _) (.cells #[.int .i64 a, .int .i64 b, .int .i64 d, .slice x N cap] 67)).trans (hB.out.mono (Nat.le_succ _)))
    by_cases hlt : i < N
    · have HVr := Lib.hid (HV.out.mono HB0.out (Nat.le_refl _))
      have HX := Lib.hid ((BoxC.new w a b d (.slice x N cap) 67).mono hB.out (Nat.lt_succ_self _))
      have hs := hB.out.size
      obtain ⟨p, hp⟩ : ∃ p, pat ps i = p := ⟨_, rfl⟩
      obtain ⟨bp, op, hidx, hcell⟩ := indexAt_P HVr.out 62 141 Tryz.underlying62 Tryz.sizePos i (by rw [HN.out]; exact hlt)
      rw [hp] at hcell
      obtain ⟨k0, k1, k2, k3, k4⟩ := hcell
      have HP := Lib.hid hp
      clear hp
      obtain ⟨ok, hok⟩ : ∃ ok, pOk ps i = ok := ⟨_, rfl⟩
      have HOK := Lib.hid hok
      clear hok
      go_upto_region 8 with fail
      have HW1 := Lib.hid ((Below.refl wr.heap.size wr).alloc (Nat.le_refl _) (.cells #[.int .u64 (p.key : Int), .int .i64 p.off, .int .i64 p.len, .int .u32 (p.cookie : Int), .bool p.gone] 141))
      go_cut [53] from 35 to 53 (fun q wx => q = .bool (!ok) ∧ Below wr.heap.size (wr.alloc (.cells #[.int .u64 (p.key : Int), .int .i64 p.off, .int .i64 p.len, .int .u32 (p.cookie : Int), .bool p.gone] 141)) wx)
      case first =>
        clear k0 k1 k2 k3 k4
        have K0 : (wr.alloc (.cells #[.int .u64 (p.key : Int), .int .i64 p.off, .int .i64 p.len, .int .u32 (p.cookie : Int), .bool p.gone] 141)).cell? ⟨wr.heap.size, 0, none⟩ = some (.int .u64 (p.key : Int)) ∧ (wr.alloc (.cells #[.int .u64 (p.key : Int), .int .i64 p.off, .int .i64 p.len, .int .u32 (p.cookie : Int), .bool p.gone] 141)).cell? ⟨wr.heap.size, 1, none⟩ = some (.int .i64 p.off) ∧ (wr.alloc (.cells #[.int .u64 (p.key : Int), .int .i64 p.off, .int .i64 p.len, .int .u32 (p.cookie : Int), .bool p.gone] 141)).cell? ⟨wr.heap.size, 2, none⟩ = some (.int .i64 p.len) ∧ (wr.alloc (.cells #[.int .u64 (p.key : Int), .int .i64 p.off, .int .i64 p.len, .int .u32 (p.cookie : Int), .bool p.gone] 141)).cell? ⟨wr.heap.size, 3, none⟩ = some (.int .u32 (p.cookie : Int)) ∧ (wr.alloc (.cells #[.int .u64 (p.key : Int), .int .i64 p.off, .int .i64 p.len, .int .u32 (p.cookie : Int), .bool p.gone] 141)).cell? ⟨wr.heap.size, 4, none⟩ = some (.bool p.gone) := by refine ⟨?_, ?_, ?_, ?_, ?_⟩ <;> go_simp
        have K1 : (wr.alloc (.cells #[.int .u64 (p.key : Int), .int .i64 p.off, .int .i64 p.len, .int .u32 (p.cookie : Int), .bool p.gone] 141)).drew.cell? ⟨wr.heap.size, 0, none⟩ = some (.int .u64 (p.key : Int)) ∧ (wr.alloc (.cells #[.int .u64 (p.key : Int), .int .i64 p.off, .int .i64 p.len, .int .u32 (p.cookie : Int), .bool p.gone] 141)).drew.cell? ⟨wr.heap.size, 1, none⟩ = some (.int .i64 p.off) ∧ (wr.alloc (.cells #[.int .u64 (p.key : Int), .int .i64 p.off, .int .i64 p.len, .int .u32 (p.cookie : Int), .bool p.gone] 141)).drew.cell? ⟨wr.heap.size, 2, none⟩ = some (.int .i64 p.len) ∧ (wr.alloc (.cells #[.int .u64 (p.key : Int), .int .i64 p.off, .int .i64 p.len, .int .u32 (p.cookie : Int), .bool p.gone] 141)).drew.cell? ⟨wr.heap.size, 3, none⟩ = some (.int .u32 (p.cookie : Int)) ∧ (wr.alloc (.cells #[.int .u64 (p.key : Int), .int .i64 p.off, .int .i64 p.len, .int .u32 (p.cookie : Int), .bool p.gone] 141)).drew.cell? ⟨wr.heap.size, 4, none⟩ = some (.bool p.gone) := K0
        cases hc : pcan p with
        | false =>
          obtain rfl : ok = false := HOK.out.symm.trans (pOk_can (by rw [HP.out]; exact hc))
          go_wp2_with fail
          refine wp_region_held_drew (S := (fun wx => wx.cell? ⟨wr.heap.size, 0, none⟩ = some (.int .u64 (p.key : Int)) ∧ wx.cell? ⟨wr.heap.size, 1, none⟩ = some (.int .i64 p.off) ∧ wx.cell? ⟨wr.heap.size, 2, none⟩ = some (.int .i64 p.len) ∧ wx.cell? ⟨wr.heap.size, 3, none⟩ = some (.int .u32 (p.cookie : Int)) ∧ wx.cell? ⟨wr.heap.size, 4, none⟩ = some (.bool p.gone))) (by kernel_rfl) (K1) (fun hHeld => ?_)
          refine wpAnyH_take (i := 0) (v := ?_) rfl (by kernel_rfl) (by kernel_rfl) (by kernel_rfl) (fun _ _ _ h => h) (Or.inl ⟨by rfl, ?_⟩) (by assumption) ?_
          rotate_left 1
          · intro w hSw
            (try dsimp only at hSw)
            go_simp
            all_goals (with_reducible rfl)
          try simp only [Act.put, List.getElem_toArray, List.getElem_cons_zero, List.getElem_cons_succ, List.setIfInBounds_toArray, List.set_cons_zero, List.set_cons_succ]
          refine wpAnyH_ready (rs := [1]) (by kernel_rfl) (by simp) ?_
          refine AllReadyH.cons rfl (fun K hK => ?_) AllReadyH.nil
          go_simp
          go_at_call 135
          refine (can_any p _).mono ?_
          rintro e wa ⟨rfl, hba⟩
          rw [hc]
          have Ka := PKeep hba (by simp) K1
          go_wp2_with fail
          refine hK.out _ _ (Ka) (fun hHeld => ?_)
          clear hK K
          try simp only [Act.put, List.getElem_toArray, List.getElem_cons_zero, List.getElem_cons_succ, List.setIfInBounds_toArray, List.set_cons_zero, List.set_cons_succ]
          refine wpAnyH_take (i := 2) (v := ?_) rfl (by kernel_rfl) (by kernel_rfl) (by kernel_rfl) (fun _ _ _ h => h) (Or.inl ⟨by rfl, ?_⟩) (by assumption) ?_
          rotate_left 1
          · intro w hSw
            (try dsimp only at hSw)
            go_simp
            all_goals (with_reducible rfl)
          try simp only [Act.put, List.getElem_toArray, List.getElem_cons_zero, List.getElem_cons_succ, List.setIfInBounds_toArray, List.set_cons_zero, List.set_cons_succ]
          refine wpAnyH_take (i := 3) (v := ?_) rfl (by kernel_rfl) (by kernel_rfl) (by kernel_rfl) (fun _ _ _ h => h) (Or.inl ⟨by rfl, ?_⟩) (by assumption) ?_
          rotate_left 1
          · intro w hSw
            (try dsimp only at hSw)
            go_simp
            all_goals (with_reducible rfl)
          try simp only [Act.put, List.getElem_toArray, List.getElem_cons_zero, List.getElem_cons_succ, List.setIfInBounds_toArray, List.set_cons_zero, List.set_cons_succ]
          refine wpAnyH_take (i := 4) (v := undef) rfl (by kernel_rfl) (by kernel_rfl) (by kernel_rfl) (fun _ _ _ h => h) (Or.inr ⟨by rfl, rfl⟩) (by assumption) ?_
          try simp only [Act.put, List.getElem_toArray, List.getElem_cons_zero, List.getElem_cons_succ, List.setIfInBounds_toArray, List.set_cons_zero, List.set_cons_succ]
          refine wpAnyH_take (i := 5) (v := undef) rfl (by kernel_rfl) (by kernel_rfl) (by kernel_rfl) (fun _ _ _ h => h) (Or.inr ⟨by rfl, rfl⟩) (by assumption) ?_
          try simp only [Act.put, List.getElem_toArray, List.getElem_cons_zero, List.getElem_cons_succ, List.setIfInBounds_toArray, List.set_cons_zero, List.set_cons_succ]
          refine wpAnyH_take (i := 6) (v := undef) rfl (by kernel_rfl) (by kernel_rfl) (by kernel_rfl) (fun _ _ _ h => h) (Or.inr ⟨by rfl, rfl⟩) (by assumption) ?_
          try simp only [Act.put, List.getElem_toArray, List.getElem_cons_zero, List.getElem_cons_succ, List.setIfInBounds_toArray, List.set_cons_zero, List.set_cons_succ]
          refine wpAnyH_take (i := 7) (v := undef) rfl (by kernel_rfl) (by kernel_rfl) (by kernel_rfl) (fun _ _ _ h => h) (Or.inr ⟨by rfl, rfl⟩) (by assumption) ?_
          try simp only [Act.put, List.getElem_toArray, List.getElem_cons_zero, List.getElem_cons_succ, List.setIfInBounds_toArray, List.set_cons_zero, List.set_cons_succ]
          refine wpAnyH_take (i := 8) (v := undef) rfl (by kernel_rfl) (by kernel_rfl) (by kernel_rfl) (fun _ _ _ h => h) (Or.inr ⟨by rfl, rfl⟩) (by assumption) ?_
          try simp only [Act.put, List.getElem_toArray, List.getElem_cons_zero, List.getElem_cons_succ, List.setIfInBounds_toArray, List.set_cons_zero, List.set_cons_succ]
          refine wpAnyH_take (i := 9) (v := undef) rfl (by kernel_rfl) (by kernel_rfl) (by kernel_rfl) (fun _ _ _ h => h) (Or.inr ⟨by rfl, rfl⟩) (by assumption) ?_
          try simp only [Act.put, List.getElem_toArray, List.getElem_cons_zero, List.getElem_cons_succ, List.setIfInBounds_toArray, List.set_cons_zero, List.set_cons_succ]
          refine wpAnyH_take (i := 10) (v := undef) rfl (by kernel_rfl) (by kernel_rfl) (by kernel_rfl) (fun _ _ _ h => h) (Or.inr ⟨by rfl, rfl⟩) (by assumption) ?_
          try simp only [Act.put, List.getElem_toArray, List.getElem_cons_zero, List.getElem_cons_succ, List.setIfInBounds_toArray, List.set_cons_zero, List.set_cons_succ]
          refine wpAnyH_take (i := 11) (v := undef) rfl (by kernel_rfl) (by kernel_rfl) (by kernel_rfl) (fun _ _ _ h => h) (Or.inr ⟨by rfl, rfl⟩) (by assumption) ?_
          try simp only [Act.put, List.getElem_toArray, List.getElem_cons_zero, List.getElem_cons_succ, List.setIfInBounds_toArray, List.set_cons_zero, List.set_cons_succ]
          refine wpAnyH_take (i := 12) (v := undef) rfl (by kernel_rfl) (by kernel_rfl) (by kernel_rfl) (fun _ _ _ h => h) (Or.inr ⟨by rfl, rfl⟩) (by assumption) ?_
          try simp only [Act.put, List.getElem_toArray, List.getElem_cons_zero, List.getElem_cons_succ, List.setIfInBounds_toArray, List.set_cons_zero, List.set_cons_succ]
          refine wpAnyH_take (i := 13) (v := undef) rfl (by kernel_rfl) (by kernel_rfl) (by kernel_rfl) (fun _ _ _ h => h) (Or.inr ⟨by rfl, rfl⟩) (by assumption) ?_
          try simp only [Act.put, List.getElem_toArray, List.getElem_cons_zero, List.getElem_cons_succ, List.setIfInBounds_toArray, List.set_cons_zero, List.set_cons_succ]
          refine wpAnyH_take (i := 14) (v := undef) rfl (by kernel_rfl) (by kernel_rfl) (by kernel_rfl) (fun _ _ _ h => h) (Or.inr ⟨by rfl, rfl⟩) (by assumption) ?_
          try simp only [Act.put, List.getElem_toArray, List.getElem_cons_zero, List.getElem_cons_succ, List.setIfInBounds_toArray, List.set_cons_zero, List.set_cons_succ]
          refine wpAnyH_take (i := 15) (v := undef) rfl (by kernel_rfl) (by kernel_rfl) (by kernel_rfl) (fun _ _ _ h => h) (Or.inr ⟨by rfl, rfl⟩) (by assumption) ?_
          try simp only [Act.put, List.getElem_toArray, List.getElem_cons_zero, List.getElem_cons_succ, List.setIfInBounds_toArray, List.set_cons_zero, List.set_cons_succ]
          refine wpAnyH_take (i := 16) (v := undef) rfl (by kernel_rfl) (by kernel_rfl) (by kernel_rfl) (fun _ _ _ h => h) (Or.inr ⟨by rfl, rfl⟩) (by assumption) ?_
          try simp only [Act.put, List.getElem_toArray, List.getElem_cons_zero, List.getElem_cons_succ, List.setIfInBounds_toArray, List.set_cons_zero, List.set_cons_succ]
          refine wpAnyH_take (i := 17) (v := undef) rfl (by kernel_rfl) (by kernel_rfl) (by kernel_rfl) (fun _ _ _ h => h) (Or.inr ⟨by rfl, rfl⟩) (by assumption) ?_
          try simp only [Act.put, List.getElem_toArray, List.getElem_cons_zero, List.getElem_cons_succ, List.setIfInBounds_toArray, List.set_cons_zero, List.set_cons_succ]
          refine wpAnyH_take (i := 18) (v := ?_) rfl (by kernel_rfl) (by kernel_rfl) (by kernel_rfl) (fun _ _ _ h => h) (Or.inl ⟨by rfl, ?_⟩) (by assumption) ?_
          rotate_left 1
          · intro w hSw
            (try dsimp only at hSw)
            go_simp
            all_goals (with_reducible rfl)
          try simp only [Act.put, List.getElem_toArray, List.getElem_cons_zero, List.getElem_cons_succ, List.setIfInBounds_toArray, List.set_cons_zero, List.set_cons_succ]
          refine wpAnyH_done (by kernel_rfl) ?_ _
          go_wp2_with fail
          go_meet
          exact ⟨rfl, ((Below.refl _ _).drew).trans (hba.mono (by simp))⟩
        | true =>
          cases i with
          | zero =>
            obtain rfl : ok = true := HOK.out.symm.trans (pOk_zero (by rw [HP.out]; exact hc))
            go_wp2_with fail
            refine wp_region_held_drew (S := (fun wx => wx.cell? ⟨wr.heap.size, 0, none⟩ = some (.int .u64 (p.key : Int)) ∧ wx.cell? ⟨wr.heap.size, 1, none⟩ = some (.int .i64 p.off) ∧ wx.cell? ⟨wr.heap.size, 2, none⟩ = some (.int .i64 p.len) ∧ wx.cell? ⟨wr.heap.size, 3, none⟩ = some (.int .u32 (p.cookie : Int)) ∧ wx.cell? ⟨wr.heap.size, 4, none⟩ = some (.bool p.gone))) (by kernel_rfl) (K1) (fun hHeld => ?_)
            refine wpAnyH_take (i := 0) (v := ?_) rfl (by kernel_rfl) (by kernel_rfl) (by kernel_rfl) (fun _ _ _ h => h) (Or.inl ⟨by rfl, ?_⟩) (by assumption) ?_
            rotate_left 1
            · intro w hSw
              (try dsimp only at hSw)
              go_simp
              all_goals (with_reducible rfl)
            try simp only [Act.put, List.getElem_toArray, List.getElem_cons_zero, List.getElem_cons_succ, List.setIfInBounds_toArray, List.set_cons_zero, List.set_cons_succ]
            refine wpAnyH_ready (rs := [1]) (by kernel_rfl) (by simp) ?_
            refine AllReadyH.cons rfl (fun K hK => ?_) AllReadyH.nil
            go_simp
            go_at_call 135
            refine (can_any p _).mono ?_
            rintro e wa ⟨rfl, hba⟩
            rw [hc]
            have Ka := PKeep hba (by simp) K1
            go_wp2_with fail
            refine hK.out _ _ (Ka) (fun hHeld => ?_)
            clear hK K
            try simp only [Act.put, List.getElem_toArray, List.getElem_cons_zero, List.getElem_cons_succ, List.setIfInBounds_toArray, List.set_cons_zero, List.set_cons_succ]
            refine wpAnyH_take (i := 2) (v := ?_) rfl (by kernel_rfl) (by kernel_rfl) (by kernel_rfl) (fun _ _ _ h => h) (Or.inl ⟨by rfl, ?_⟩) (by assumption) ?_
            rotate_left 1
            · intro w hSw
              (try dsimp only at hSw)
              go_simp
              all_goals (with_reducible rfl)
            try simp only [Act.put, List.getElem_toArray, List.getElem_cons_zero, List.getElem_cons_succ, List.setIfInBounds_toArray, List.set_cons_zero, List.set_cons_succ]
            refine wpAnyH_take (i := 3) (v := ?_) rfl (by kernel_rfl) (by kernel_rfl) (by kernel_rfl) (fun _ _ _ h => h) (Or.inl ⟨by rfl, ?_⟩) (by assumption) ?_
            rotate_left 1
            · intro w hSw
              (try dsimp only at hSw)
              go_simp
              all_goals (with_reducible rfl)
            try simp only [Act.put, List.getElem_toArray, List.getElem_cons_zero, List.getElem_cons_succ, List.setIfInBounds_toArray, List.set_cons_zero, List.set_cons_succ]
            refine wpAnyH_take (i := 4) (v := ?_) rfl (by kernel_rfl) (by kernel_rfl) (by kernel_rfl) (fun _ _ _ h => h) (Or.inl ⟨by rfl, ?_⟩) (by assumption) ?_
            rotate_left 1
            · intro w hSw
              (try dsimp only at hSw)
              go_simp
              all_goals (with_reducible rfl)
            try simp only [Act.put, List.getElem_toArray, List.getElem_cons_zero, List.getElem_cons_succ, List.setIfInBounds_toArray, List.set_cons_zero, List.set_cons_succ]
            refine wpAnyH_take (i := 5) (v := ?_) rfl (by kernel_rfl) (by kernel_rfl) (by kernel_rfl) (fun _ _ _ h => h) (Or.inl ⟨by rfl, ?_⟩) (by assumption) ?_
            rotate_left 1
            · intro w hSw
              (try dsimp only at hSw)
              go_simp
              all_goals (with_reducible rfl)
            try simp only [Act.put, List.getElem_toArray, List.getElem_cons_zero, List.getElem_cons_succ, List.setIfInBounds_toArray, List.set_cons_zero, List.set_cons_succ]
            refine wpAnyH_take (i := 6) (v := ?_) rfl (by kernel_rfl) (by kernel_rfl) (by kernel_rfl) (fun _ _ _ h => h) (Or.inl ⟨by rfl, ?_⟩) (by assumption) ?_
            rotate_left 1
            · intro w hSw
              (try dsimp only at hSw)
              go_simp
              all_goals (with_reducible rfl)
            try simp only [Act.put, List.getElem_toArray, List.getElem_cons_zero, List.getElem_cons_succ, List.setIfInBounds_toArray, List.set_cons_zero, List.set_cons_succ]
            refine wpAnyH_take (i := 7) (v := undef) rfl (by kernel_rfl) (by kernel_rfl) (by kernel_rfl) (fun _ _ _ h => h) (Or.inr ⟨by rfl, rfl⟩) (by assumption) ?_
            try simp only [Act.put, List.getElem_toArray, List.getElem_cons_zero, List.getElem_cons_succ, List.setIfInBounds_toArray, List.set_cons_zero, List.set_cons_succ]
            refine wpAnyH_take (i := 8) (v := undef) rfl (by kernel_rfl) (by kernel_rfl) (by kernel_rfl) (fun _ _ _ h => h) (Or.inr ⟨by rfl, rfl⟩) (by assumption) ?_
            try simp only [Act.put, List.getElem_toArray, List.getElem_cons_zero, List.getElem_cons_succ, List.setIfInBounds_toArray, List.set_cons_zero, List.set_cons_succ]
            refine wpAnyH_take (i := 9) (v := undef) rfl (by kernel_rfl) (by kernel_rfl) (by kernel_rfl) (fun _ _ _ h => h) (Or.inr ⟨by rfl, rfl⟩) (by assumption) ?_
            try simp only [Act.put, List.getElem_toArray, List.getElem_cons_zero, List.getElem_cons_succ, List.setIfInBounds_toArray, List.set_cons_zero, List.set_cons_succ]
            refine wpAnyH_take (i := 10) (v := undef) rfl (by kernel_rfl) (by kernel_rfl) (by kernel_rfl) (fun _ _ _ h => h) (Or.inr ⟨by rfl, rfl⟩) (by assumption) ?_
            try simp only [Act.put, List.getElem_toArray, List.getElem_cons_zero, List.getElem_cons_succ, List.setIfInBounds_toArray, List.set_cons_zero, List.set_cons_succ]
            refine wpAnyH_take (i := 11) (v := undef) rfl (by kernel_rfl) (by kernel_rfl) (by kernel_rfl) (fun _ _ _ h => h) (Or.inr ⟨by rfl, rfl⟩) (by assumption) ?_
            try simp only [Act.put, List.getElem_toArray, List.getElem_cons_zero, List.getElem_cons_succ, List.setIfInBounds_toArray, List.set_cons_zero, List.set_cons_succ]
            refine wpAnyH_take (i := 12) (v := undef) rfl (by kernel_rfl) (by kernel_rfl) (by kernel_rfl) (fun _ _ _ h => h) (Or.inr ⟨by rfl, rfl⟩) (by assumption) ?_
            try simp only [Act.put, List.getElem_toArray, List.getElem_cons_zero, List.getElem_cons_succ, List.setIfInBounds_toArray, List.set_cons_zero, List.set_cons_succ]
            refine wpAnyH_take (i := 13) (v := undef) rfl (by kernel_rfl) (by kernel_rfl) (by kernel_rfl) (fun _ _ _ h => h) (Or.inr ⟨by rfl, rfl⟩) (by assumption) ?_
            try simp only [Act.put, List.getElem_toArray, List.getElem_cons_zero, List.getElem_cons_succ, List.setIfInBounds_toArray, List.set_cons_zero, List.set_cons_succ]
            refine wpAnyH_take (i := 14) (v := undef) rfl (by kernel_rfl) (by kernel_rfl) (by kernel_rfl) (fun _ _ _ h => h) (Or.inr ⟨by rfl, rfl⟩) (by assumption) ?_
            try simp only [Act.put, List.getElem_toArray, List.getElem_cons_zero, List.getElem_cons_succ, List.setIfInBounds_toArray, List.set_cons_zero, List.set_cons_succ]
            refine wpAnyH_take (i := 15) (v := undef) rfl (by kernel_rfl) (by kernel_rfl) (by kernel_rfl) (fun _ _ _ h => h) (Or.inr ⟨by rfl, rfl⟩) (by assumption) ?_
            try simp only [Act.put, List.getElem_toArray, List.getElem_cons_zero, List.getElem_cons_succ, List.setIfInBounds_toArray, List.set_cons_zero, List.set_cons_succ]
            refine wpAnyH_take (i := 16) (v := undef) rfl (by kernel_rfl) (by kernel_rfl) (by kernel_rfl) (fun _ _ _ h => h) (Or.inr ⟨by rfl, rfl⟩) (by assumption) ?_
            try simp only [Act.put, List.getElem_toArray, List.getElem_cons_zero, List.getElem_cons_succ, List.setIfInBounds_toArray, List.set_cons_zero, List.set_cons_succ]
            refine wpAnyH_take (i := 17) (v := ?_) rfl (by kernel_rfl) (by kernel_rfl) (by kernel_rfl) (fun _ _ _ h => h) (Or.inl ⟨by rfl, ?_⟩) (by assumption) ?_
            rotate_left 1
            · intro w hSw
              (try dsimp only at hSw)
              go_simp
              all_goals (with_reducible rfl)
            try simp only [Act.put, List.getElem_toArray, List.getElem_cons_zero, List.getElem_cons_succ, List.setIfInBounds_toArray, List.set_cons_zero, List.set_cons_succ]
            refine wpAnyH_take (i := 18) (v := ?_) rfl (by kernel_rfl) (by kernel_rfl) (by kernel_rfl) (fun _ _ _ h => h) (Or.inl ⟨by rfl, ?_⟩) (by assumption) ?_
            rotate_left 1
            · intro w hSw
              (try dsimp only at hSw)
              go_simp
              all_goals (with_reducible rfl)
            try simp only [Act.put, List.getElem_toArray, List.getElem_cons_zero, List.getElem_cons_succ, List.setIfInBounds_toArray, List.set_cons_zero, List.set_cons_succ]
            refine wpAnyH_done (by kernel_rfl) ?_ _
            go_wp2_with fail
            go_meet
            exact ⟨rfl, ((Below.refl _ _).drew).trans (hba.mono (by simp))⟩
          | succ j =>
            obtain ⟨q, hq⟩ : ∃ q, pat ps j = q := ⟨_, rfl⟩
            obtain ⟨bq, oq, hidq, hcellq⟩ := indexAt_P HVr.out 62 141 Tryz.underlying62 Tryz.sizePos j (by rw [HN.out]; omega)
            have hqb := hcellq.lt
            have hq0 := hcellq.1
            rw [hq] at hq0
            clear hcellq
            have hx3 := HX.out.2.2.2
            have hsb : w.heap.size < wr.heap.size := Nat.lt_of_lt_of_le (by simp) hs
            have e2 : ok = decide (q.key < p.key) := by rw [← HOK.out, pOk_succ (by rw [HP.out]; exact hc), HP.out, hq]
            have L1 : (wr.alloc (.cells #[.int .u64 (p.key : Int), .int .i64 p.off, .int .i64 p.len, .int .u32 (p.cookie : Int), .bool p.gone] 141)).drew.cell? ⟨wr.heap.size, 0, none⟩ = some (.int .u64 (p.key : Int)) ∧ (wr.alloc (.cells #[.int .u64 (p.key : Int), .int .i64 p.off, .int .i64 p.len, .int .u32 (p.cookie : Int), .bool p.gone] 141)).drew.cell? ⟨wr.heap.size, 1, none⟩ = some (.int .i64 p.off) ∧ (wr.alloc (.cells #[.int .u64 (p.key : Int), .int .i64 p.off, .int .i64 p.len, .int .u32 (p.cookie : Int), .bool p.gone] 141)).drew.cell? ⟨wr.heap.size, 2, none⟩ = some (.int .i64 p.len) ∧ (wr.alloc (.cells #[.int .u64 (p.key : Int), .int .i64 p.off, .int .i64 p.len, .int .u32 (p.cookie : Int), .bool p.gone] 141)).drew.cell? ⟨wr.heap.size, 3, none⟩ = some (.int .u32 (p.cookie : Int)) ∧ (wr.alloc (.cells #[.int .u64 (p.key : Int), .int .i64 p.off, .int .i64 p.len, .int .u32 (p.cookie : Int), .bool p.gone] 141)).drew.cell? ⟨wr.heap.size, 4, none⟩ = some (.bool p.gone) ∧ (wr.alloc (.cells #[.int .u64 (p.key : Int), .int .i64 p.off, .int .i64 p.len, .int .u32 (p.cookie : Int), .bool p.gone] 141)).drew.cell? ⟨w.heap.size, 3, none⟩ = some (.slice x N cap) ∧ (wr.alloc (.cells #[.int .u64 (p.key : Int), .int .i64 p.off, .int .i64 p.len, .int .u32 (p.cookie : Int), .bool p.gone] 141)).drew.cell? ⟨bq, oq, none⟩ = some (.int .u64 (q.key : Int)) := ⟨K1.1, K1.2.1, K1.2.2.1, K1.2.2.2.1, K1.2.2.2.2, (HW1.out.cell (p := ⟨w.heap.size, 3, none⟩) hsb).trans hx3, (HW1.out.cell (p := ⟨bq, oq, none⟩) hqb).trans hq0⟩
            clear hq0 hx3 K0
            have hj0 : (0 : Int) < ((j + 1 : Nat) : Int) := by omega
            have hwj : IntKind.i64.wrap (j : Int) = (j : Int) := by rw [IntKind.wrap_i64]; omega
            by_cases hkey : q.key < p.key
            · obtain rfl : ok = true := e2.trans (decide_eq_true hkey)
              clear e2
              have hd : decide ((p.key : Int) ≤ (q.key : Int)) = false := decide_eq_false (by omega)
              go_wp2_with fail
              refine wp_region_held_drew (S := (fun wx => wx.cell? ⟨wr.heap.size, 0, none⟩ = some (.int .u64 (p.key : Int)) ∧ wx.cell? ⟨wr.heap.size, 1, none⟩ = some (.int .i64 p.off) ∧ wx.cell? ⟨wr.heap.size, 2, none⟩ = some (.int .i64 p.len) ∧ wx.cell? ⟨wr.heap.size, 3, none⟩ = some (.int .u32 (p.cookie : Int)) ∧ wx.cell? ⟨wr.heap.size, 4, none⟩ = some (.bool p.gone) ∧ wx.cell? ⟨w.heap.size, 3, none⟩ = some (.slice x N cap) ∧ wx.cell? ⟨bq, oq, none⟩ = some (.int .u64 (q.key : Int)))) (by kernel_rfl) (L1) (fun hHeld => ?_)
              refine wpAnyH_take (i := 0) (v := ?_) rfl (by kernel_rfl) (by kernel_rfl) (by kernel_rfl) (fun _ _ _ h => h) (Or.inl ⟨by rfl, ?_⟩) (by assumption) ?_
              rotate_left 1
              · intro w hSw
                (try dsimp only at hSw)
                go_simp
                all_goals (with_reducible rfl)
              try simp only [Act.put, List.getElem_toArray, List.getElem_cons_zero, List.getElem_cons_succ, List.setIfInBounds_toArray, List.set_cons_zero, List.set_cons_succ]
              refine wpAnyH_ready (rs := [1]) (by kernel_rfl) (by simp) ?_
              refine AllReadyH.cons rfl (fun K hK => ?_) AllReadyH.nil
              go_simp
              go_at_call 135
              refine (can_any p _).mono ?_
              rintro e wa ⟨rfl, hba⟩
              rw [hc]
              have Kp := PKeep hba (by simp) K1
              have Ka := And.intro Kp.1 (And.intro Kp.2.1 (And.intro Kp.2.2.1 (And.intro Kp.2.2.2.1 (And.intro Kp.2.2.2.2 (And.intro ((hba.cell (p := ⟨w.heap.size, 3, none⟩) (by simp; omega)).trans L1.2.2.2.2.2.1) ((hba.cell (p := ⟨bq, oq, none⟩) (by simp; omega)).trans L1.2.2.2.2.2.2))))))
              go_wp2_with fail
              refine hK.out _ _ (Ka) (fun hHeld => ?_)
              clear hK K
              try simp only [Act.put, List.getElem_toArray, List.getElem_cons_zero, List.getElem_cons_succ, List.setIfInBounds_toArray, List.set_cons_zero, List.set_cons_succ]
              refine wpAnyH_take (i := 2) (v := ?_) rfl (by kernel_rfl) (by kernel_rfl) (by kernel_rfl) (fun _ _ _ h => h) (Or.inl ⟨by rfl, ?_⟩) (by assumption) ?_
              rotate_left 1
              · intro w hSw
                (try dsimp only at hSw)
                go_simp
                all_goals (with_reducible rfl)
              try simp only [Act.put, List.getElem_toArray, List.getElem_cons_zero, List.getElem_cons_succ, List.setIfInBounds_toArray, List.set_cons_zero, List.set_cons_succ]
              refine wpAnyH_take (i := 3) (v := ?_) rfl (by kernel_rfl) (by kernel_rfl) (by kernel_rfl) (fun _ _ _ h => h) (Or.inl ⟨by rfl, ?_⟩) (by assumption) ?_
              rotate_left 1
              · intro w hSw
                (try dsimp only at hSw)
                go_simp
                all_goals (with_reducible rfl)
              try simp only [Act.put, List.getElem_toArray, List.getElem_cons_zero, List.getElem_cons_succ, List.setIfInBounds_toArray, List.set_cons_zero, List.set_cons_succ]
              refine wpAnyH_take (i := 4) (v := ?_) rfl (by kernel_rfl) (by kernel_rfl) (by kernel_rfl) (fun _ _ _ h => h) (Or.inl ⟨by rfl, ?_⟩) (by assumption) ?_
              rotate_left 1
              · intro w hSw
                (try dsimp only at hSw)
                go_simp
                all_goals (with_reducible rfl)
              try simp only [Act.put, List.getElem_toArray, List.getElem_cons_zero, List.getElem_cons_succ, List.setIfInBounds_toArray, List.set_cons_zero, List.set_cons_succ]
              refine wpAnyH_take (i := 5) (v := ?_) rfl (by kernel_rfl) (by kernel_rfl) (by kernel_rfl) (fun _ _ _ h => h) (Or.inl ⟨by rfl, ?_⟩) (by assumption) ?_
              rotate_left 1
              · intro w hSw
                (try dsimp only at hSw)
                go_simp
                all_goals (with_reducible rfl)
              try simp only [Act.put, List.getElem_toArray, List.getElem_cons_zero, List.getElem_cons_succ, List.setIfInBounds_toArray, List.set_cons_zero, List.set_cons_succ]
              refine wpAnyH_take (i := 6) (v := ?_) rfl (by kernel_rfl) (by kernel_rfl) (by kernel_rfl) (fun _ _ _ h => h) (Or.inl ⟨by rfl, ?_⟩) (by assumption) ?_
              rotate_left 1
              · intro w hSw
                (try dsimp only at hSw)
                go_simp
                all_goals (with_reducible rfl)
              try simp only [Act.put, List.getElem_toArray, List.getElem_cons_zero, List.getElem_cons_succ, List.setIfInBounds_toArray, List.set_cons_zero, List.set_cons_succ]
              refine wpAnyH_take (i := 7) (v := ?_) rfl (by kernel_rfl) (by kernel_rfl) (by kernel_rfl) (fun _ _ _ h => h) (Or.inl ⟨by rfl, ?_⟩) (by assumption) ?_
              rotate_left 1
              · intro w hSw
                (try dsimp only at hSw)
                go_simp
                all_goals (with_reducible rfl)
              try simp only [Act.put, List.getElem_toArray, List.getElem_cons_zero, List.getElem_cons_succ, List.setIfInBounds_toArray, List.set_cons_zero, List.set_cons_succ]
              refine wpAnyH_take (i := 8) (v := ?_) rfl (by kernel_rfl) (by kernel_rfl) (by kernel_rfl) (fun _ _ _ h => h) (Or.inl ⟨by rfl, ?_⟩) (by assumption) ?_
              rotate_left 1
              · intro w hSw
                (try dsimp only at hSw)
                go_simp
                all_goals (with_reducible rfl)
              try simp only [Act.put, List.getElem_toArray, List.getElem_cons_zero, List.getElem_cons_succ, List.setIfInBounds_toArray, List.set_cons_zero, List.set_cons_succ]
              refine wpAnyH_take (i := 9) (v := ?_) rfl (by kernel_rfl) (by kernel_rfl) (by kernel_rfl) (fun _ _ _ h => h) (Or.inl ⟨by rfl, ?_⟩) (by assumption) ?_
              rotate_left 1
              · intro w hSw
                (try dsimp only at hSw)
                go_simp
                all_goals (with_reducible rfl)
              try simp only [Act.put, List.getElem_toArray, List.getElem_cons_zero, List.getElem_cons_succ, List.setIfInBounds_toArray, List.set_cons_zero, List.set_cons_succ]
              refine wpAnyH_take (i := 10) (v := ?_) rfl (by kernel_rfl) (by kernel_rfl) (by kernel_rfl) (fun _ _ _ h => h) (Or.inl ⟨by rfl, ?_⟩) (by assumption) ?_
              rotate_left 1
              · intro w hSw
                (try dsimp only at hSw)
                go_simp
                all_goals (with_reducible rfl)
              try simp only [Act.put, List.getElem_toArray, List.getElem_cons_zero, List.getElem_cons_succ, List.setIfInBounds_toArray, List.set_cons_zero, List.set_cons_succ]
              refine wpAnyH_take (i := 11) (v := ?_) rfl (by kernel_rfl) (by kernel_rfl) (by kernel_rfl) (fun _ _ _ h => h) (Or.inl ⟨by rfl, ?_⟩) (by assumption) ?_
              rotate_left 1
              · intro w hSw
                (try dsimp only at hSw)
                go_simp
                all_goals (with_reducible rfl)
              try simp only [Act.put, List.getElem_toArray, List.getElem_cons_zero, List.getElem_cons_succ, List.setIfInBounds_toArray, List.set_cons_zero, List.set_cons_succ]
              refine wpAnyH_take (i := 12) (v := ?_) rfl (by kernel_rfl) (by kernel_rfl) (by kernel_rfl) (fun _ _ _ h => h) (Or.inl ⟨by rfl, ?_⟩) (by assumption) ?_
              rotate_left 1
              · intro w hSw
                (try dsimp only at hSw)
                go_simp
                all_goals (with_reducible rfl)
              try simp only [Act.put, List.getElem_toArray, List.getElem_cons_zero, List.getElem_cons_succ, List.setIfInBounds_toArray, List.set_cons_zero, List.set_cons_succ]
              refine wpAnyH_take (i := 13) (v := ?_) rfl (by kernel_rfl) (by kernel_rfl) (by kernel_rfl) (fun _ _ _ h => h) (Or.inl ⟨by rfl, ?_⟩) (by assumption) ?_
              rotate_left 1
              · intro w hSw
                (try dsimp only at hSw)
                go_simp
                all_goals (with_reducible rfl)
              try simp only [Act.put, List.getElem_toArray, List.getElem_cons_zero, List.getElem_cons_succ, List.setIfInBounds_toArray, List.set_cons_zero, List.set_cons_succ]
              refine wpAnyH_take (i := 14) (v := ?_) rfl (by kernel_rfl) (by kernel_rfl) (by kernel_rfl) (fun _ _ _ h => h) (Or.inl ⟨by rfl, ?_⟩) (by assumption) ?_
              rotate_left 1
              · intro w hSw
                (try dsimp only at hSw)
                go_simp
                all_goals (with_reducible rfl)
              try simp only [Act.put, List.getElem_toArray, List.getElem_cons_zero, List.getElem_cons_succ, List.setIfInBounds_toArray, List.set_cons_zero, List.set_cons_succ]
              refine wpAnyH_take (i := 15) (v := ?_) rfl (by kernel_rfl) (by kernel_rfl) (by kernel_rfl) (fun _ _ _ h => h) (Or.inl ⟨by rfl, ?_⟩) (by assumption) ?_
              rotate_left 1
              · intro w hSw
                (try dsimp only at hSw)
                go_simp
                all_goals (with_reducible rfl)
              try simp only [Act.put, List.getElem_toArray, List.getElem_cons_zero, List.getElem_cons_succ, List.setIfInBounds_toArray, List.set_cons_zero, List.set_cons_succ]
              refine wpAnyH_take (i := 16) (v := ?_) rfl (by kernel_rfl) (by kernel_rfl) (by kernel_rfl) (fun _ _ _ h => h) (Or.inl ⟨by rfl, ?_⟩) (by assumption) ?_
              rotate_left 1
              · intro w hSw
                (try dsimp only at hSw)
                go_simp
                all_goals (with_reducible rfl)
              try simp only [Act.put, List.getElem_toArray, List.getElem_cons_zero, List.getElem_cons_succ, List.setIfInBounds_toArray, List.set_cons_zero, List.set_cons_succ]
              refine wpAnyH_take (i := 17) (v := ?_) rfl (by kernel_rfl) (by kernel_rfl) (by kernel_rfl) (fun _ _ _ h => h) (Or.inl ⟨by rfl, ?_⟩) (by assumption) ?_
              rotate_left 1
              · intro w hSw
                (try dsimp only at hSw)
                go_simp
                all_goals (with_reducible rfl)
              try simp only [Act.put, List.getElem_toArray, List.getElem_cons_zero, List.getElem_cons_succ, List.setIfInBounds_toArray, List.set_cons_zero, List.set_cons_succ]
              refine wpAnyH_take (i := 18) (v := ?_) rfl (by kernel_rfl) (by kernel_rfl) (by kernel_rfl) (fun _ _ _ h => h) (Or.inl ⟨by rfl, ?_⟩) (by assumption) ?_
              rotate_left 1
              · intro w hSw
                (try dsimp only at hSw)
                go_simp
                all_goals (with_reducible rfl)
              try simp only [Act.put, List.getElem_toArray, List.getElem_cons_zero, List.getElem_cons_succ, List.setIfInBounds_toArray, List.set_cons_zero, List.set_cons_succ]
              refine wpAnyH_done (by kernel_rfl) ?_ _
              go_wp2_with fail
              go_meet
              exact ⟨congrArg Value.bool (decide_eq_false (by omega)), ((Below.refl _ _).drew).trans (hba.mono (by simp))⟩
            · obtain rfl : ok = false := e2.trans (decide_eq_false hkey)
              clear e2
              have hd : decide ((p.key : Int) ≤ (q.key : Int)) = true := decide_eq_true (by omega)
              go_wp2_with fail
              refine wp_region_held_drew (S := (fun wx => wx.cell? ⟨wr.heap.size, 0, none⟩ = some (.int .u64 (p.key : Int)) ∧ wx.cell? ⟨wr.heap.size, 1, none⟩ = some (.int .i64 p.off) ∧ wx.cell? ⟨wr.heap.size, 2, none⟩ = some (.int .i64 p.len) ∧ wx.cell? ⟨wr.heap.size, 3, none⟩ = some (.int .u32 (p.cookie : Int)) ∧ wx.cell? ⟨wr.heap.size, 4, none⟩ = some (.bool p.gone) ∧ wx.cell? ⟨w.heap.size, 3, none⟩ = some (.slice x N cap) ∧ wx.cell? ⟨bq, oq, none⟩ = some (.int .u64 (q.key : Int)))) (by kernel_rfl) (L1) (fun hHeld => ?_)
              refine wpAnyH_take (i := 0) (v := ?_) rfl (by kernel_rfl) (by kernel_rfl) (by kernel_rfl) (fun _ _ _ h => h) (Or.inl ⟨by rfl, ?_⟩) (by assumption) ?_
              rotate_left 1
              · intro w hSw
                (try dsimp only at hSw)
                go_simp
                all_goals (with_reducible rfl)
              try simp only [Act.put, List.getElem_toArray, List.getElem_cons_zero, List.getElem_cons_succ, List.setIfInBounds_toArray, List.set_cons_zero, List.set_cons_succ]
              refine wpAnyH_ready (rs := [1]) (by kernel_rfl) (by simp) ?_
              refine AllReadyH.cons rfl (fun K hK => ?_) AllReadyH.nil
              go_simp
              go_at_call 135
              refine (can_any p _).mono ?_
              rintro e wa ⟨rfl, hba⟩
              rw [hc]
              have Kp := PKeep hba (by simp) K1
              have Ka := And.intro Kp.1 (And.intro Kp.2.1 (And.intro Kp.2.2.1 (And.intro Kp.2.2.2.1 (And.intro Kp.2.2.2.2 (And.intro ((hba.cell (p := ⟨w.heap.size, 3, none⟩) (by simp; omega)).trans L1.2.2.2.2.2.1) ((hba.cell (p := ⟨bq, oq, none⟩) (by simp; omega)).trans L1.2.2.2.2.2.2))))))
              go_wp2_with fail
              refine hK.out _ _ (Ka) (fun hHeld => ?_)
              clear hK K
              try simp only [Act.put, List.getElem_toArray, List.getElem_cons_zero, List.getElem_cons_succ, List.setIfInBounds_toArray, List.set_cons_zero, List.set_cons_succ]
              refine wpAnyH_take (i := 2) (v := ?_) rfl (by kernel_rfl) (by kernel_rfl) (by kernel_rfl) (fun _ _ _ h => h) (Or.inl ⟨by rfl, ?_⟩) (by assumption) ?_
              rotate_left 1
              · intro w hSw
                (try dsimp only at hSw)
                go_simp
                all_goals (with_reducible rfl)
              try simp only [Act.put, List.getElem_toArray, List.getElem_cons_zero, List.getElem_cons_succ, List.setIfInBounds_toArray, List.set_cons_zero, List.set_cons_succ]
              refine wpAnyH_take (i := 3) (v := ?_) rfl (by kernel_rfl) (by kernel_rfl) (by kernel_rfl) (fun _ _ _ h => h) (Or.inl ⟨by rfl, ?_⟩) (by assumption) ?_
              rotate_left 1
              · intro w hSw
                (try dsimp only at hSw)
                go_simp
                all_goals (with_reducible rfl)
              try simp only [Act.put, List.getElem_toArray, List.getElem_cons_zero, List.getElem_cons_succ, List.setIfInBounds_toArray, List.set_cons_zero, List.set_cons_succ]
              refine wpAnyH_take (i := 4) (v := ?_) rfl (by kernel_rfl) (by kernel_rfl) (by kernel_rfl) (fun _ _ _ h => h) (Or.inl ⟨by rfl, ?_⟩) (by assumption) ?_
              rotate_left 1
              · intro w hSw
                (try dsimp only at hSw)
                go_simp
                all_goals (with_reducible rfl)
              try simp only [Act.put, List.getElem_toArray, List.getElem_cons_zero, List.getElem_cons_succ, List.setIfInBounds_toArray, List.set_cons_zero, List.set_cons_succ]
              refine wpAnyH_take (i := 5) (v := ?_) rfl (by kernel_rfl) (by kernel_rfl) (by kernel_rfl) (fun _ _ _ h => h) (Or.inl ⟨by rfl, ?_⟩) (by assumption) ?_
              rotate_left 1
              · intro w hSw
                (try dsimp only at hSw)
                go_simp
                all_goals (with_reducible rfl)
              try simp only [Act.put, List.getElem_toArray, List.getElem_cons_zero, List.getElem_cons_succ, List.setIfInBounds_toArray, List.set_cons_zero, List.set_cons_succ]
              refine wpAnyH_take (i := 6) (v := ?_) rfl (by kernel_rfl) (by kernel_rfl) (by kernel_rfl) (fun _ _ _ h => h) (Or.inl ⟨by rfl, ?_⟩) (by assumption) ?_
              rotate_left 1
              · intro w hSw
                (try dsimp only at hSw)
                go_simp
                all_goals (with_reducible rfl)
              try simp only [Act.put, List.getElem_toArray, List.getElem_cons_zero, List.getElem_cons_succ, List.setIfInBounds_toArray, List.set_cons_zero, List.set_cons_succ]
              refine wpAnyH_take (i := 7) (v := ?_) rfl (by kernel_rfl) (by kernel_rfl) (by kernel_rfl) (fun _ _ _ h => h) (Or.inl ⟨by rfl, ?_⟩) (by assumption) ?_
              rotate_left 1
              · intro w hSw
                (try dsimp only at hSw)
                go_simp
                all_goals (with_reducible rfl)
              try simp only [Act.put, List.getElem_toArray, List.getElem_cons_zero, List.getElem_cons_succ, List.setIfInBounds_toArray, List.set_cons_zero, List.set_cons_succ]
              refine wpAnyH_take (i := 8) (v := ?_) rfl (by kernel_rfl) (by kernel_rfl) (by kernel_rfl) (fun _ _ _ h => h) (Or.inl ⟨by rfl, ?_⟩) (by assumption) ?_
              rotate_left 1
              · intro w hSw
                (try dsimp only at hSw)
                go_simp
                all_goals (with_reducible rfl)
              try simp only [Act.put, List.getElem_toArray, List.getElem_cons_zero, List.getElem_cons_succ, List.setIfInBounds_toArray, List.set_cons_zero, List.set_cons_succ]
              refine wpAnyH_take (i := 9) (v := ?_) rfl (by kernel_rfl) (by kernel_rfl) (by kernel_rfl) (fun _ _ _ h => h) (Or.inl ⟨by rfl, ?_⟩) (by assumption) ?_
              rotate_left 1
              · intro w hSw
                (try dsimp only at hSw)
                go_simp
                all_goals (with_reducible rfl)
              try simp only [Act.put, List.getElem_toArray, List.getElem_cons_zero, List.getElem_cons_succ, List.setIfInBounds_toArray, List.set_cons_zero, List.set_cons_succ]
              refine wpAnyH_take (i := 10) (v := ?_) rfl (by kernel_rfl) (by kernel_rfl) (by kernel_rfl) (fun _ _ _ h => h) (Or.inl ⟨by rfl, ?_⟩) (by assumption) ?_
              rotate_left 1
              · intro w hSw
                (try dsimp only at hSw)
                go_simp
                all_goals (with_reducible rfl)
              try simp only [Act.put, List.getElem_toArray, List.getElem_cons_zero, List.getElem_cons_succ, List.setIfInBounds_toArray, List.set_cons_zero, List.set_cons_succ]
              refine wpAnyH_take (i := 11) (v := ?_) rfl (by kernel_rfl) (by kernel_rfl) (by kernel_rfl) (fun _ _ _ h => h) (Or.inl ⟨by rfl, ?_⟩) (by assumption) ?_
              rotate_left 1
              · intro w hSw
                (try dsimp only at hSw)
                go_simp
                all_goals (with_reducible rfl)
              try simp only [Act.put, List.getElem_toArray, List.getElem_cons_zero, List.getElem_cons_succ, List.setIfInBounds_toArray, List.set_cons_zero, List.set_cons_succ]
              refine wpAnyH_take (i := 12) (v := ?_) rfl (by kernel_rfl) (by kernel_rfl) (by kernel_rfl) (fun _ _ _ h => h) (Or.inl ⟨by rfl, ?_⟩) (by assumption) ?_
              rotate_left 1
              · intro w hSw
                (try dsimp only at hSw)
                go_simp
                all_goals (with_reducible rfl)
              try simp only [Act.put, List.getElem_toArray, List.getElem_cons_zero, List.getElem_cons_succ, List.setIfInBounds_toArray, List.set_cons_zero, List.set_cons_succ]
              refine wpAnyH_take (i := 13) (v := ?_) rfl (by kernel_rfl) (by kernel_rfl) (by kernel_rfl) (fun _ _ _ h => h) (Or.inl ⟨by rfl, ?_⟩) (by assumption) ?_
              rotate_left 1
              · intro w hSw
                (try dsimp only at hSw)
                go_simp
                all_goals (with_reducible rfl)
              try simp only [Act.put, List.getElem_toArray, List.getElem_cons_zero, List.getElem_cons_succ, List.setIfInBounds_toArray, List.set_cons_zero, List.set_cons_succ]
              refine wpAnyH_take (i := 14) (v := ?_) rfl (by kernel_rfl) (by kernel_rfl) (by kernel_rfl) (fun _ _ _ h => h) (Or.inl ⟨by rfl, ?_⟩) (by assumption) ?_
              rotate_left 1
              · intro w hSw
                (try dsimp only at hSw)
                go_simp
                all_goals (with_reducible rfl)
              try simp only [Act.put, List.getElem_toArray, List.getElem_cons_zero, List.getElem_cons_succ, List.setIfInBounds_toArray, List.set_cons_zero, List.set_cons_succ]
              refine wpAnyH_take (i := 15) (v := ?_) rfl (by kernel_rfl) (by kernel_rfl) (by kernel_rfl) (fun _ _ _ h => h) (Or.inl ⟨by rfl, ?_⟩) (by assumption) ?_
              rotate_left 1
              · intro w hSw
                (try dsimp only at hSw)
                go_simp
                all_goals (with_reducible rfl)
              try simp only [Act.put, List.getElem_toArray, List.getElem_cons_zero, List.getElem_cons_succ, List.setIfInBounds_toArray, List.set_cons_zero, List.set_cons_succ]
              refine wpAnyH_take (i := 16) (v := ?_) rfl (by kernel_rfl) (by kernel_rfl) (by kernel_rfl) (fun _ _ _ h => h) (Or.inl ⟨by rfl, ?_⟩) (by assumption) ?_
              rotate_left 1
              · intro w hSw
                (try dsimp only at hSw)
                go_simp
                all_goals (with_reducible rfl)
              try simp only [Act.put, List.getElem_toArray, List.getElem_cons_zero, List.getElem_cons_succ, List.setIfInBounds_toArray, List.set_cons_zero, List.set_cons_succ]
              refine wpAnyH_take (i := 17) (v := ?_) rfl (by kernel_rfl) (by kernel_rfl) (by kernel_rfl) (fun _ _ _ h => h) (Or.inl ⟨by rfl, ?_⟩) (by assumption) ?_
              rotate_left 1
              · intro w hSw
                (try dsimp only at hSw)
                go_simp
                all_goals (with_reducible rfl)
              try simp only [Act.put, List.getElem_toArray, List.getElem_cons_zero, List.getElem_cons_succ, List.setIfInBounds_toArray, List.set_cons_zero, List.set_cons_succ]
              refine wpAnyH_take (i := 18) (v := ?_) rfl (by kernel_rfl) (by kernel_rfl) (by kernel_rfl) (fun _ _ _ h => h) (Or.inl ⟨by rfl, ?_⟩) (by assumption) ?_
              rotate_left 1
              · intro w hSw
                (try dsimp only at hSw)
                go_simp
                all_goals (with_reducible rfl)
              try simp only [Act.put, List.getElem_toArray, List.getElem_cons_zero, List.getElem_cons_succ, List.setIfInBounds_toArray, List.set_cons_zero, List.set_cons_succ]
              refine wpAnyH_done (by kernel_rfl) ?_ _
              go_wp2_with fail
              go_meet
              exact ⟨congrArg Value.bool (decide_eq_true (by omega)), ((Below.refl _ _).drew).trans (hba.mono (by simp))⟩
      case rest =>
      obtain ⟨rfl, hbc⟩ := hcut
      have HW2 := Lib.hid (HW1.out.trans (hbc.mono (by simp)))
      clear hbc HW1 k0 k1 k2 k3 k4
      cases ok with
      | true =>
        go_wp2
        go_roundw
        case rel => exact ⟨i + 1, by omega, by go_num, Lib.hid (fun j hj => by
          by_cases hji : j < i
          · exact hK.out j hji
          · obtain rfl : j = i := by omega
            exact HOK.out), Lib.hid (hB.out.trans (HW2.out.mono (by simpa using hs)))⟩
        case measure => simp [intOf]; omega
      | false =>
        have HE := Lib.hid (HRV.out.trans (if_neg (by rw [lOk_no (by rw [HN.out]; exact hlt) HOK.out]; exact Bool.false_ne_true)))
        go_wp2
        go_ret
        exact ⟨congrArg _ HE.out.symm, HB0.out.trans (HW2.out.mono HB0.out.size)⟩
    · obtain rfl : N = i := by omega
      have e : lOk ps = true := lOk_of fun j hj => hK.out j (by rw [← HN.out]; exact hj)
      have HE := Lib.hid (HRV.out.trans (if_pos e))
      clear e
      go_wp2
      go_ret
      exact ⟨congrArg _ HE.out.symm, HB0.out⟩

theorem right_any (c : Chk) (v : Value) (w : World) (hv : IsP w v c.l) :
    Calls Tryz.prog 114 #[cval c v] w fun e w' => e = .returned (cerr (cright c)) ∧ Below w.heap.size w w' := by
  obtain ⟨a, b, d, ps⟩ := c
  by_cases hl : 4096 < ps.length
  · rw [cright_long hl]
    exact right_long a b d ps v w hv hl
  · cases hh : hOk a b d with
    | false =>
      rw [cright_head (by show ps.length ≤ 4096; omega) hh]
      exact right_head a b d ps v w hv (by omega) hh
    | true =>
      refine (right_list a b d ps v w hv (by omega) hh).mono ?_
      rintro e w' ⟨rfl, hb⟩
      refine ⟨?_, hb⟩
      cases ho : lOk ps with
      | true => rw [cright_of (by show ps.length ≤ 4096; omega) hh ho]; rfl
      | false => rw [cright_list (by show ps.length ≤ 4096; omega) ho]; rfl

end Go.Proofs.YtdchcepgbbdmhaaGreatDoor.Ck
end

section
namespace Go.Proofs.YtdchcepgbbdmhaaGreatDoor.Ck
open Go.RowKit Go.Cor Go.Proofs.YtdchcepgbbdmhaaGreatDoor.Nd

/-- A position in a box of its own. -/
def PBox (w : World) (g : Nat) (p : Pos) : Prop :=
  w.cell? ⟨g, 0, none⟩ = some (.int .u64 (p.key : Int)) ∧ w.cell? ⟨g, 1, none⟩ = some (.int .i64 p.off) ∧ w.cell? ⟨g, 2, none⟩ = some (.int .i64 p.len) ∧ w.cell? ⟨g, 3, none⟩ = some (.int .u32 (p.cookie : Int)) ∧ w.cell? ⟨g, 4, none⟩ = some (.bool p.gone)
theorem PBox.mono {w w' : World} {g B : Nat} {p : Pos} (h : PBox w g p) (hb : Below B w w') (hg : g < B) : PBox w' g p := by
  obtain ⟨h0, h1, h2, h3, h4⟩ := h
  exact ⟨(hb.cell (by exact hg)).trans h0, (hb.cell (by exact hg)).trans h1, (hb.cell (by exact hg)).trans h2, (hb.cell (by exact hg)).trans h3, (hb.cell (by exact hg)).trans h4⟩
theorem PBox.grown {w w' : World} {g : Nat} {row : Option Nat} {p : Pos} (h : PBox w g p) (hb : w.grownBy w' row) (hg : row ≠ some g) : PBox w' g p := by
  obtain ⟨h0, h1, h2, h3, h4⟩ := h
  have hne : some g ≠ row := fun e => hg e.symm
  exact ⟨hb.cell h0 hne, hb.cell h1 hne, hb.cell h2 hne, hb.cell h3 hne, hb.cell h4 hne⟩
theorem PBox.new (w : World) (key cookie : Nat) (off len : Int) (gone : Bool) (T : TypeId) : PBox (w.alloc (.cells #[.int .u64 (key : Int), .int .i64 off, .int .i64 len, .int .u32 (cookie : Int), .bool gone] T)) w.heap.size ⟨key, off, len, cookie, gone⟩ := by
  refine ⟨?_, ?_, ?_, ?_, ?_⟩ <;> go_simp
theorem flag_great (g : Bool) : flagN g ≤ great ((4 : Nat) : Int) := by cases g <;> decide

set_option maxHeartbeats 1000000 in
theorem laid_false (key o l cookie : Nat) (w : World) (hk : key < 18446744073709551616) (hc : cookie < 4294967296) (ho : o ≤ 16777216) (hl : l ≤ 4096) :
    Calls Tryz.prog 116 #[pval ⟨key, (o : Int), (l : Int), cookie, false⟩] w fun e w' =>
      ∃ v', e = .returned v' ∧ w'.ownsRow w.heap.size 5 1 v' 24 (bvs (pbytes ⟨key, (o : Int), (l : Int), cookie, false⟩)) ∧ Below w.heap.size w w' := by
  obtain ⟨i0, hi, hz0, hz1, hz2⟩ := info_parts Tryz.infoU8
  have HK8 := Lib.hid (show key ≤ great ((8 : Nat) : Int) from Nat.le_of_lt_succ hk)
  have HC4 := Lib.hid (show cookie ≤ great ((4 : Nat) : Int) from Nat.le_of_lt_succ hc)
  have HO4 := Lib.hid (show o ≤ great ((4 : Nat) : Int) from Nat.le_trans ho (by decide))
  have HL4 := Lib.hid (show l ≤ great ((4 : Nat) : Int) from Nat.le_trans hl (by decide))
  clear hk
  have HX0 := Lib.hid (PBox.new w key cookie (o : Int) (l : Int) false 141)
  have HB0 := Lib.hid ((Below.refl w.heap.size w).alloc (Nat.le_refl _) (.cells #[.int .u64 (key : Int), .int .i64 (o : Int), .int .i64 (l : Int), .int .u32 (cookie : Int), .bool false] 141))
  have hs0 : w.heap.size + 1 ≤ (w.alloc (.cells #[.int .u64 (key : Int), .int .i64 (o : Int), .int .i64 (l : Int), .int .u32 (cookie : Int), .bool false] 141)).heap.size := by simp
  go_enter Tryz.func116, Tryz.ntmps116
  go_wp2_with fail
  refine (num_anyC key 8 _ (.inr (.inr (.inr rfl))) HK8.out).mono ?_
  rintro e w1 ⟨v1, rfl, hown1, hb1⟩
  have hs1 : w.heap.size + 1 ≤ w1.heap.size := Nat.le_trans hs0 hb1.size
  have HX1 := Lib.hid (HX0.out.mono hb1 hs0)
  have HB1 := Lib.hid (HB0.out.trans (hb1.mono (Nat.le_of_succ_le hs0)))
  have HO1 := Lib.hid (ownsRow_base hown1 (show w.heap.size + 1 ≤ _ from hs0))
  clear hown1 hb1 HX0 HB0 hs0
  obtain ⟨q0, q1, q2, q3, q4⟩ := HX1.out
  go_wp2_with fail
  refine (num_anyC o 4 _ (.inr (.inr (.inl rfl))) HO4.out).mono ?_
  rintro e w2 ⟨v2, rfl, hown2, hb2⟩
  have hs2 : w.heap.size + 1 ≤ w2.heap.size := Nat.le_trans hs1 hb2.size
  have HX2 := Lib.hid (HX1.out.mono hb2 hs1)
  have HB2 := Lib.hid (HB1.out.trans (hb2.mono (Nat.le_of_succ_le hs1)))
  have HO2 := Lib.hid (ownsRow_below HO1.out hb2 (Nat.le_refl _))
  have HN := Lib.hid (IsB.own hown2 (length_le _ _).symm)
  clear hown2 hb2 HX1 HO1 HB1 hs1
  clear q0 q1 q2 q3 q4
  go_wp2_with (at_builtin; refine wpList_append_B (by rfl) _ _ 44 rfl (w.heap.size + 1) 5 i0 Tryz.underlying44 hi hz0 hz1 hz2 _ (le key 8) _ rfl HO2.out ((length_le _ _).symm) _ (le o 4) rfl HN.out (by simp [length_le]) hs2 ?_)
  intro v3 w3 hown3 hb3
  have hs3 : w.heap.size + 1 ≤ w3.heap.size := Nat.le_trans hs2 hb3.size
  have HX3 := Lib.hid (HX2.out.mono hb3 (Nat.lt_succ_self _))
  have HB3 := Lib.hid (HB2.out.trans (hb3.mono (Nat.le_succ _)))
  have HO3 := Lib.hid hown3
  clear hown3 hb3 HX2 HO2 HB2 hs2
  obtain ⟨q0, q1, q2, q3, q4⟩ := HX3.out
  go_wp2_with fail
  refine (num_anyC l 4 _ (.inr (.inr (.inl rfl))) HL4.out).mono ?_
  rintro e w4 ⟨v4, rfl, hown4, hb4⟩
  have hs4 : w.heap.size + 1 ≤ w4.heap.size := Nat.le_trans hs3 hb4.size
  have HX4 := Lib.hid (HX3.out.mono hb4 hs3)
  have HB4 := Lib.hid (HB3.out.trans (hb4.mono (Nat.le_of_succ_le hs3)))
  have HO4 := Lib.hid (ownsRow_below HO3.out hb4 (Nat.le_refl _))
  have HN := Lib.hid (IsB.own hown4 (length_le _ _).symm)
  clear hown4 hb4 HX3 HO3 HB3 hs3
  clear q0 q1 q2 q3 q4
  go_wp2_with (at_builtin; refine wpList_append_B (by rfl) _ _ 44 rfl (w.heap.size + 1) 5 i0 Tryz.underlying44 hi hz0 hz1 hz2 _ ((le key 8 ++ le o 4)) _ rfl HO4.out rfl _ (le l 4) rfl HN.out (by simp [length_le]) hs4 ?_)
  intro v5 w5 hown5 hb5
  have hs5 : w.heap.size + 1 ≤ w5.heap.size := Nat.le_trans hs4 hb5.size
  have HX5 := Lib.hid (HX4.out.mono hb5 (Nat.lt_succ_self _))
  have HB5 := Lib.hid (HB4.out.trans (hb5.mono (Nat.le_succ _)))
  have HO5 := Lib.hid hown5
  clear hown5 hb5 HX4 HO4 HB4 hs4
  obtain ⟨q0, q1, q2, q3, q4⟩ := HX5.out
  go_wp2_with fail
  refine (num_anyC cookie 4 _ (.inr (.inr (.inl rfl))) HC4.out).mono ?_
  rintro e w6 ⟨v6, rfl, hown6, hb6⟩
  have hs6 : w.heap.size + 1 ≤ w6.heap.size := Nat.le_trans hs5 hb6.size
  have HX6 := Lib.hid (HX5.out.mono hb6 hs5)
  have HB6 := Lib.hid (HB5.out.trans (hb6.mono (Nat.le_of_succ_le hs5)))
  have HO6 := Lib.hid (ownsRow_below HO5.out hb6 (Nat.le_refl _))
  have HN := Lib.hid (IsB.own hown6 (length_le _ _).symm)
  clear hown6 hb6 HX5 HO5 HB5 hs5
  clear q0 q1 q2 q3 q4
  go_wp2_with (at_builtin; refine wpList_append_B (by rfl) _ _ 44 rfl (w.heap.size + 1) 5 i0 Tryz.underlying44 hi hz0 hz1 hz2 _ (((le key 8 ++ le o 4) ++ le l 4)) _ rfl HO6.out rfl _ (le cookie 4) rfl HN.out (by simp [length_le]) hs6 ?_)
  intro v7 w7 hown7 hb7
  have hs7 : w.heap.size + 1 ≤ w7.heap.size := Nat.le_trans hs6 hb7.size
  have HX7 := Lib.hid (HX6.out.mono hb7 (Nat.lt_succ_self _))
  have HB7 := Lib.hid (HB6.out.trans (hb7.mono (Nat.le_succ _)))
  have HO7 := Lib.hid hown7
  clear hown7 hb7 HX6 HO6 HB6 hs6
  obtain ⟨q0, q1, q2, q3, q4⟩ := HX7.out
  go_wp2_with fail
  refine (num_anyC 0 4 _ (.inr (.inr (.inl rfl))) (by decide)).mono ?_
  rintro e w8 ⟨v8, rfl, hown8, hb8⟩
  have hs8 : w.heap.size + 1 ≤ w8.heap.size := Nat.le_trans hs7 hb8.size
  have HX8 := Lib.hid (HX7.out.mono hb8 hs7)
  have HB8 := Lib.hid (HB7.out.trans (hb8.mono (Nat.le_of_succ_le hs7)))
  have HO8 := Lib.hid (ownsRow_below HO7.out hb8 (Nat.le_refl _))
  have HN := Lib.hid (IsB.own hown8 (length_le _ _).symm)
  clear hown8 hb8 HX7 HO7 HB7 hs7
  clear q0 q1 q2 q3 q4
  go_wp2_with (at_builtin; refine wpList_append_B (by rfl) _ _ 44 rfl (w.heap.size + 1) 5 i0 Tryz.underlying44 hi hz0 hz1 hz2 _ ((((le key 8 ++ le o 4) ++ le l 4) ++ le cookie 4)) _ rfl HO8.out rfl _ (le 0 4) rfl HN.out (by simp [length_le]) hs8 ?_)
  intro v9 w9 hown9 hb9
  have hs9 : w.heap.size + 1 ≤ w9.heap.size := Nat.le_trans hs8 hb9.size
  have HX9 := Lib.hid (HX8.out.mono hb9 (Nat.lt_succ_self _))
  have HB9 := Lib.hid (HB8.out.trans (hb9.mono (Nat.le_succ _)))
  have HO9 := Lib.hid hown9
  clear hown9 hb9 HX8 HO8 HB8 hs8
  go_wp2
  go_ret
  refine ⟨v9, rfl, ?_, HB9.out⟩
  have h := ownsRow_base HO9.out (Nat.le_succ _)
  rw [show pbytes ⟨key, (o : Int), (l : Int), cookie, false⟩ = le key 8 ++ (le o 4 ++ (le l 4 ++ (le cookie 4 ++ le 0 4))) from by simp [pbytes, flagN]]
  simpa [length_le] using h

set_option maxHeartbeats 1000000 in
theorem laid_true (key o l cookie : Nat) (w : World) (hk : key < 18446744073709551616) (hc : cookie < 4294967296) (ho : o ≤ 16777216) (hl : l ≤ 4096) :
    Calls Tryz.prog 116 #[pval ⟨key, (o : Int), (l : Int), cookie, true⟩] w fun e w' =>
      ∃ v', e = .returned v' ∧ w'.ownsRow w.heap.size 5 1 v' 24 (bvs (pbytes ⟨key, (o : Int), (l : Int), cookie, true⟩)) ∧ Below w.heap.size w w' := by
  obtain ⟨i0, hi, hz0, hz1, hz2⟩ := info_parts Tryz.infoU8
  have HK8 := Lib.hid (show key ≤ great ((8 : Nat) : Int) from Nat.le_of_lt_succ hk)
  have HC4 := Lib.hid (show cookie ≤ great ((4 : Nat) : Int) from Nat.le_of_lt_succ hc)
  have HO4 := Lib.hid (show o ≤ great ((4 : Nat) : Int) from Nat.le_trans ho (by decide))
  have HL4 := Lib.hid (show l ≤ great ((4 : Nat) : Int) from Nat.le_trans hl (by decide))
  clear hk
  have HX0 := Lib.hid (PBox.new w key cookie (o : Int) (l : Int) true 141)
  have HB0 := Lib.hid ((Below.refl w.heap.size w).alloc (Nat.le_refl _) (.cells #[.int .u64 (key : Int), .int .i64 (o : Int), .int .i64 (l : Int), .int .u32 (cookie : Int), .bool true] 141))
  have hs0 : w.heap.size + 1 ≤ (w.alloc (.cells #[.int .u64 (key : Int), .int .i64 (o : Int), .int .i64 (l : Int), .int .u32 (cookie : Int), .bool true] 141)).heap.size := by simp
  go_enter Tryz.func116, Tryz.ntmps116
  go_wp2_with fail
  refine (num_anyC key 8 _ (.inr (.inr (.inr rfl))) HK8.out).mono ?_
  rintro e w1 ⟨v1, rfl, hown1, hb1⟩
  have hs1 : w.heap.size + 1 ≤ w1.heap.size := Nat.le_trans hs0 hb1.size
  have HX1 := Lib.hid (HX0.out.mono hb1 hs0)
  have HB1 := Lib.hid (HB0.out.trans (hb1.mono (Nat.le_of_succ_le hs0)))
  have HO1 := Lib.hid (ownsRow_base hown1 (show w.heap.size + 1 ≤ _ from hs0))
  clear hown1 hb1 HX0 HB0 hs0
  obtain ⟨q0, q1, q2, q3, q4⟩ := HX1.out
  go_wp2_with fail
  refine (num_anyC o 4 _ (.inr (.inr (.inl rfl))) HO4.out).mono ?_
  rintro e w2 ⟨v2, rfl, hown2, hb2⟩
  have hs2 : w.heap.size + 1 ≤ w2.heap.size := Nat.le_trans hs1 hb2.size
  have HX2 := Lib.hid (HX1.out.mono hb2 hs1)
  have HB2 := Lib.hid (HB1.out.trans (hb2.mono (Nat.le_of_succ_le hs1)))
  have HO2 := Lib.hid (ownsRow_below HO1.out hb2 (Nat.le_refl _))
  have HN := Lib.hid (IsB.own hown2 (length_le _ _).symm)
  clear hown2 hb2 HX1 HO1 HB1 hs1
  clear q0 q1 q2 q3 q4
  go_wp2_with (at_builtin; refine wpList_append_B (by rfl) _ _ 44 rfl (w.heap.size + 1) 5 i0 Tryz.underlying44 hi hz0 hz1 hz2 _ (le key 8) _ rfl HO2.out ((length_le _ _).symm) _ (le o 4) rfl HN.out (by simp [length_le]) hs2 ?_)
  intro v3 w3 hown3 hb3
  have hs3 : w.heap.size + 1 ≤ w3.heap.size := Nat.le_trans hs2 hb3.size
  have HX3 := Lib.hid (HX2.out.mono hb3 (Nat.lt_succ_self _))
  have HB3 := Lib.hid (HB2.out.trans (hb3.mono (Nat.le_succ _)))
  have HO3 := Lib.hid hown3
  clear hown3 hb3 HX2 HO2 HB2 hs2
  obtain ⟨q0, q1, q2, q3, q4⟩ := HX3.out
  go_wp2_with fail
  refine (num_anyC l 4 _ (.inr (.inr (.inl rfl))) HL4.out).mono ?_
  rintro e w4 ⟨v4, rfl, hown4, hb4⟩
  have hs4 : w.heap.size + 1 ≤ w4.heap.size := Nat.le_trans hs3 hb4.size
  have HX4 := Lib.hid (HX3.out.mono hb4 hs3)
  have HB4 := Lib.hid (HB3.out.trans (hb4.mono (Nat.le_of_succ_le hs3)))
  have HO4 := Lib.hid (ownsRow_below HO3.out hb4 (Nat.le_refl _))
  have HN := Lib.hid (IsB.own hown4 (length_le _ _).symm)
  clear hown4 hb4 HX3 HO3 HB3 hs3
  clear q0 q1 q2 q3 q4
  go_wp2_with (at_builtin; refine wpList_append_B (by rfl) _ _ 44 rfl (w.heap.size + 1) 5 i0 Tryz.underlying44 hi hz0 hz1 hz2 _ ((le key 8 ++ le o 4)) _ rfl HO4.out rfl _ (le l 4) rfl HN.out (by simp [length_le]) hs4 ?_)
  intro v5 w5 hown5 hb5
  have hs5 : w.heap.size + 1 ≤ w5.heap.size := Nat.le_trans hs4 hb5.size
  have HX5 := Lib.hid (HX4.out.mono hb5 (Nat.lt_succ_self _))
  have HB5 := Lib.hid (HB4.out.trans (hb5.mono (Nat.le_succ _)))
  have HO5 := Lib.hid hown5
  clear hown5 hb5 HX4 HO4 HB4 hs4
  obtain ⟨q0, q1, q2, q3, q4⟩ := HX5.out
  go_wp2_with fail
  refine (num_anyC cookie 4 _ (.inr (.inr (.inl rfl))) HC4.out).mono ?_
  rintro e w6 ⟨v6, rfl, hown6, hb6⟩
  have hs6 : w.heap.size + 1 ≤ w6.heap.size := Nat.le_trans hs5 hb6.size
  have HX6 := Lib.hid (HX5.out.mono hb6 hs5)
  have HB6 := Lib.hid (HB5.out.trans (hb6.mono (Nat.le_of_succ_le hs5)))
  have HO6 := Lib.hid (ownsRow_below HO5.out hb6 (Nat.le_refl _))
  have HN := Lib.hid (IsB.own hown6 (length_le _ _).symm)
  clear hown6 hb6 HX5 HO5 HB5 hs5
  clear q0 q1 q2 q3 q4
  go_wp2_with (at_builtin; refine wpList_append_B (by rfl) _ _ 44 rfl (w.heap.size + 1) 5 i0 Tryz.underlying44 hi hz0 hz1 hz2 _ (((le key 8 ++ le o 4) ++ le l 4)) _ rfl HO6.out rfl _ (le cookie 4) rfl HN.out (by simp [length_le]) hs6 ?_)
  intro v7 w7 hown7 hb7
  have hs7 : w.heap.size + 1 ≤ w7.heap.size := Nat.le_trans hs6 hb7.size
  have HX7 := Lib.hid (HX6.out.mono hb7 (Nat.lt_succ_self _))
  have HB7 := Lib.hid (HB6.out.trans (hb7.mono (Nat.le_succ _)))
  have HO7 := Lib.hid hown7
  clear hown7 hb7 HX6 HO6 HB6 hs6
  obtain ⟨q0, q1, q2, q3, q4⟩ := HX7.out
  go_wp2_with fail
  refine (num_anyC 1 4 _ (.inr (.inr (.inl rfl))) (by decide)).mono ?_
  rintro e w8 ⟨v8, rfl, hown8, hb8⟩
  have hs8 : w.heap.size + 1 ≤ w8.heap.size := Nat.le_trans hs7 hb8.size
  have HX8 := Lib.hid (HX7.out.mono hb8 hs7)
  have HB8 := Lib.hid (HB7.out.trans (hb8.mono (Nat.le_of_succ_le hs7)))
  have HO8 := Lib.hid (ownsRow_below HO7.out hb8 (Nat.le_refl _))
  have HN := Lib.hid (IsB.own hown8 (length_le _ _).symm)
  clear hown8 hb8 HX7 HO7 HB7 hs7
  clear q0 q1 q2 q3 q4
  go_wp2_with (at_builtin; refine wpList_append_B (by rfl) _ _ 44 rfl (w.heap.size + 1) 5 i0 Tryz.underlying44 hi hz0 hz1 hz2 _ ((((le key 8 ++ le o 4) ++ le l 4) ++ le cookie 4)) _ rfl HO8.out rfl _ (le 1 4) rfl HN.out (by simp [length_le]) hs8 ?_)
  intro v9 w9 hown9 hb9
  have hs9 : w.heap.size + 1 ≤ w9.heap.size := Nat.le_trans hs8 hb9.size
  have HX9 := Lib.hid (HX8.out.mono hb9 (Nat.lt_succ_self _))
  have HB9 := Lib.hid (HB8.out.trans (hb9.mono (Nat.le_succ _)))
  have HO9 := Lib.hid hown9
  clear hown9 hb9 HX8 HO8 HB8 hs8
  go_wp2
  go_ret
  refine ⟨v9, rfl, ?_, HB9.out⟩
  have h := ownsRow_base HO9.out (Nat.le_succ _)
  rw [show pbytes ⟨key, (o : Int), (l : Int), cookie, true⟩ = le key 8 ++ (le o 4 ++ (le l 4 ++ (le cookie 4 ++ le 1 4))) from by simp [pbytes, flagN]]
  simpa [length_le] using h

theorem laid_any (p : Pos) (w : World) (hf : p.fits) (hc : pcan p = true) :
    Calls Tryz.prog 116 #[pval p] w fun e w' =>
      ∃ v', e = .returned v' ∧ w'.ownsRow w.heap.size 5 1 v' 24 (bvs (pbytes p)) ∧ Below w.heap.size w w' := by
  have h := pcan_fits hc
  obtain ⟨key, off, len, cookie, gone⟩ := p
  obtain ⟨o, rfl⟩ := Int.eq_ofNat_of_zero_le h.1
  obtain ⟨l, rfl⟩ := Int.eq_ofNat_of_zero_le h.2.2.1
  have h1 := h.2.1
  have h2 := h.2.2.2.1
  simp only at h1 h2
  cases gone with
  | false => exact laid_false key o l cookie w hf.1 hf.2.1 (by omega) (by omega)
  | true => exact laid_true key o l cookie w hf.1 hf.2.1 (by omega) (by omega)

end Go.Proofs.YtdchcepgbbdmhaaGreatDoor.Ck
end

section
namespace Go.Proofs.YtdchcepgbbdmhaaGreatDoor.Ck
open Go.RowKit Go.Cor Go.Proofs.YtdchcepgbbdmhaaGreatDoor.Nd

/-- The numbers ahead, and how far they are laid. -/
def hnum (a b d n : Nat) : Nat → Nat
  | 0 => 1128811344
  | 1 => a
  | 2 => b
  | 3 => d
  | _ => n
def hpre (a b d n : Nat) : Nat → List UInt8
  | 0 => []
  | k + 1 => hpre a b d n k ++ le (hnum a b d n k) 4
theorem length_hpre (a b d n k : Nat) : (hpre a b d n k).length = 4 * k := by
  induction k with
  | zero => rfl
  | succ k ih =>
    simp only [hpre, List.length_append, ih, length_le]
    omega
theorem hpre_head (a b d n : Nat) : hpre a b d n 5 = le 1128811344 4 ++ le a 4 ++ le b 4 ++ le d 4 ++ le n 4 := rfl
theorem Tryz.index5 (x0 x1 x2 x3 x4 : Int) :
    (∀ W, (Instr.index 199 (.agg #[.int .i64 x0, .int .i64 x1, .int .i64 x2, .int .i64 x3, .int .i64 x4]) (.int .i64 0)).run Tryz.prog W = .ok (.int .i64 x0) W) ∧
    (∀ W, (Instr.index 199 (.agg #[.int .i64 x0, .int .i64 x1, .int .i64 x2, .int .i64 x3, .int .i64 x4]) (.int .i64 1)).run Tryz.prog W = .ok (.int .i64 x1) W) ∧
    (∀ W, (Instr.index 199 (.agg #[.int .i64 x0, .int .i64 x1, .int .i64 x2, .int .i64 x3, .int .i64 x4]) (.int .i64 2)).run Tryz.prog W = .ok (.int .i64 x2) W) ∧
    (∀ W, (Instr.index 199 (.agg #[.int .i64 x0, .int .i64 x1, .int .i64 x2, .int .i64 x3, .int .i64 x4]) (.int .i64 3)).run Tryz.prog W = .ok (.int .i64 x3) W) ∧
    (∀ W, (Instr.index 199 (.agg #[.int .i64 x0, .int .i64 x1, .int .i64 x2, .int .i64 x3, .int .i64 x4]) (.int .i64 4)).run Tryz.prog W = .ok (.int .i64 x4) W) := by
  refine ⟨fun W => ?_, fun W => ?_, fun W => ?_, fun W => ?_, fun W => ?_⟩ <;> kernel_rfl

set_option maxRecDepth 100000 in
set_option maxHeartbeats 4000000 in
theorem put_okC (c : Chk) (v : Value) (w : World) (hv : IsP w v c.l) (hf : ∀ p ∈ c.l, p.fits) (h : cright c = 0) :
    Calls Tryz.prog 87 #[cval c v] w fun e w' =>
      ∃ g cap, e = .returned (.tuple #[.slice (some ⟨g, 0, none⟩) (cbytes c).length cap, .nilIface]) ∧ w'.ownsRow w.heap.size 5 1 (.slice (some ⟨g, 0, none⟩) (cbytes c).length cap) (cbytes c).length (bvs (cbytes c)) ∧ Below w.heap.size w w' := by
  obtain ⟨i0, hi, hz0, hz1, hz2⟩ := info_parts Tryz.infoU8
  obtain ⟨h1, h2, h3⟩ := cright_ok h
  have hh := hOk_fits h2
  obtain ⟨a, b, d, ps⟩ := c
  obtain ⟨a, rfl⟩ := Int.eq_ofNat_of_zero_le (show 0 ≤ a by have := hh.1; simp only at this; omega)
  obtain ⟨b, rfl⟩ := Int.eq_ofNat_of_zero_le (show 0 ≤ b by have := hh.2.2.1; simp only at this; omega)
  obtain ⟨d, rfl⟩ := Int.eq_ofNat_of_zero_le (show 0 ≤ d by have := hh.2.2.2.2.1; simp only at this; omega)
  have ha : a ≤ 65535 := by have := hh.2.1; simp only at this; omega
  have hb : b ≤ 2147483647 := by have := hh.2.2.2.1; simp only at this; omega
  have hd : d ≤ 16777216 := by have := hh.2.2.2.2.2; simp only at this; omega
  have HH := Lib.hid (show chead ⟨(a : Int), (b : Int), (d : Int), ps⟩ = hpre a b d ps.length 5 from by rw [hpre_head]; simp [chead])
  have HL := Lib.hid (length_cbytes ⟨(a : Int), (b : Int), (d : Int), ps⟩)
  have HR := Lib.hid h
  have H3 := Lib.hid (show lOk ps = true from h3)
  have HF := Lib.hid (show ∀ p ∈ ps, p.fits from hf)
  have HV := Lib.hid (show IsP w v ps from hv)
  obtain ⟨N, hN⟩ : ∃ N, ps.length = N := ⟨_, rfl⟩
  obtain ⟨x, cap, rfl, hlc, hcm⟩ := IsP.at_len (ps := ps) hv hN
  have hN4 : N ≤ 4096 := by rw [← hN]; exact h1
  simp only [hN] at HH HL
  obtain ⟨C, hC⟩ : ∃ C, C = cbytes ⟨(a : Int), (b : Int), (d : Int), ps⟩ := ⟨_, rfl⟩
  rw [← hC] at HL
  rw [← hC]
  have HC := Lib.hid hC
  have HN := Lib.hid hN
  clear hv hf h h1 h2 h3 hh hN hC
  have hmk : ∀ wx : World, (Instr.makeSlice 44 (.int .i64 0) (.int .i64 (20 + 24 * (N : Int)))).run Tryz.prog wx = .ok (.slice (some ⟨wx.heap.size, 0, none⟩) 0 (20 + 24 * N)) (wx.alloc (.cells (madeCells #[.int .u8 0] (20 + 24 * N)) 5)) := fun wx => by
    have := run_make (P := Tryz.prog) wx 44 5 i0 (.int .u8 0) Tryz.underlying44 hi hz0 .i64 .i64 0 (20 + 24 * (N : Int)) (by omega) (by omega) (by rw [hz2]; omega) (by omega)
    rw [this, hz1]
    simp [show (20 + 24 * (N : Int)).toNat = 20 + 24 * N from by omega, Value.cells]
  obtain ⟨x0, x1, x2, x3, x4⟩ := Tryz.index5 1128811344 (a : Int) (b : Int) (d : Int) (N : Int)
  go_enter Tryz.func87, Tryz.ntmps87
  go_wp2_with fail
  refine (right_any ⟨(a : Int), (b : Int), (d : Int), ps⟩ _ _ (HV.out.mono ((Below.refl _ _).alloc (Nat.le_refl _) _) (Nat.le_refl _))).mono ?_
  rintro e w1 ⟨rfl, hb1⟩
  rw [HR.out, cerr_0]
  have hs1 : w.heap.size + 1 ≤ w1.heap.size := Nat.le_trans (by simp) hb1.size
  have HX1 := Lib.hid ((BoxC.new w (a : Int) (b : Int) (d : Int) (.slice x N cap) 67).mono hb1 (by simp))
  have HB1 := Lib.hid ((((Below.refl w.heap.size w).alloc (Nat.le_refl _) _).trans (hb1.mono (by simp))) : Below w.heap.size w w1)
  have HV1 := Lib.hid (HV.out.mono HB1.out (Nat.le_refl _))
  clear hb1
  obtain ⟨q0, q1, q2, q3⟩ := HX1.out
  go_upto_region 5 with fail
  have hbk : Below w1.heap.size w1 (w1.alloc (.cells (madeCells #[.int .u8 0] (20 + 24 * N)) 5)) := (Below.refl _ _).alloc (Nat.le_refl _) _
  have hs2 : w.heap.size + 1 ≤ (w1.alloc (.cells (madeCells #[.int .u8 0] (20 + 24 * N)) 5)).heap.size := Nat.le_trans hs1 hbk.size
  have HO2 := Lib.hid (World.ownsRow_made (base := w.heap.size + 1) (e := 5) (size := 1) w1 (madeCells #[.int .u8 0] (20 + 24 * N)) (20 + 24 * N) hs1 (by unfold maxLen; omega) (by simp [size_madeCells]))
  have HX2 := Lib.hid (HX1.out.mono hbk hs1)
  have HB2 := Lib.hid (HB1.out.trans (hbk.mono (Nat.le_of_succ_le hs1)))
  clear q0 q1 q2 q3 hbk HX1 HB1 HV1 hmk hs1
  obtain ⟨w2, hw2⟩ : ∃ w2, w2 = w1.alloc (.cells (madeCells #[.int .u8 0] (20 + 24 * N)) 5) := ⟨_, rfl⟩
  rw [← hw2] at hs2 HO2 HX2 HB2 ⊢
  clear hw2
  obtain ⟨q0, q1, q2, q3⟩ := HX2.out
  go_wp2_with fail
  clear q0 q1 q2 q3
  go_loopw [5, 31] (fun o k wr => ∃ i : Nat, i ≤ 5 ∧ k = .int .i64 i ∧ Hid (wr.ownsRow (w.heap.size + 1) 5 1 o (4 * i) (bvs (hpre a b d N i))) ∧ Hid (BoxC wr w.heap.size (a : Int) (b : Int) (d : Int) (.slice x N cap)) ∧ Hid (Below w.heap.size w wr) ∧ w.heap.size + 1 ≤ wr.heap.size) (fun _ k _ => 5 - (intOf k).toNat)
  case atStart => exact ⟨0, by omega, rfl, HO2, HX2, HB2, hs2⟩
  case round =>
    clear HO2 HX2 HB2 hs2
    obtain ⟨i, hi5, rfl, HO3, HX3, HB3, hs3⟩ := hrel
    by_cases hlt : i < 5
    · rcases (show i = 0 ∨ i = 1 ∨ i = 2 ∨ i = 3 ∨ i = 4 from by omega) with rfl | rfl | rfl | rfl | rfl
      · obtain ⟨q0, q1, q2, q3⟩ := HX3.out
        go_wp2_with fail
        refine (num_anyC 1128811344 4 _ (.inr (.inr (.inl rfl))) (Nat.le_trans (show 1128811344 ≤ 4294967295 from by omega) (by decide))).mono ?_
        rintro e w4 ⟨v4, rfl, hown4, hb4⟩
        have hs4 : w.heap.size + 1 ≤ w4.heap.size := Nat.le_trans hs3 hb4.size
        have HX4 := Lib.hid (HX3.out.mono hb4 hs3)
        have HB4 := Lib.hid (HB3.out.trans (hb4.mono (Nat.le_of_succ_le hs3)))
        have HO4 := Lib.hid (ownsRow_below HO3.out hb4 (Nat.le_refl _))
        have HN4 := Lib.hid (IsB.own hown4 (length_le _ _).symm)
        clear hown4 hb4 q0 q1 q2 q3 HX3 HO3 HB3 hs3
        go_wp2_with (at_builtin; refine wpList_append_B (by rfl) _ _ 44 rfl (w.heap.size + 1) 5 i0 Tryz.underlying44 hi hz0 hz1 hz2 _ (hpre a b d N 0) _ rfl HO4.out (length_hpre _ _ _ _ _).symm _ (le 1128811344 4) rfl HN4.out (by rw [length_hpre, length_le]; omega) hs4 ?_)
        intro v5 w5 hown5 hb5
        have hs5 : w.heap.size + 1 ≤ w5.heap.size := Nat.le_trans hs4 hb5.size
        have HX5 := Lib.hid (HX4.out.mono hb5 (Nat.lt_succ_self _))
        have HB5 := Lib.hid (HB4.out.trans (hb5.mono (Nat.le_succ _)))
        have HO5 := Lib.hid (show w5.ownsRow (w.heap.size + 1) 5 1 v5 (4 * (0 + 1)) (bvs (hpre a b d N (0 + 1))) from by
          have e : (hpre a b d N 0).length + (le 1128811344 4).length = 4 * (0 + 1) := by rw [length_hpre, length_le]
          rw [e] at hown5
          exact hown5)
        clear hown5 hb5 HX4 HO4 HB4 hs4
        go_wp2
        go_roundw
        case rel => exact ⟨0 + 1, by omega, by go_num, HO5, HX5, HB5, hs5⟩
        case measure => simp [intOf]
      · obtain ⟨q0, q1, q2, q3⟩ := HX3.out
        go_wp2_with fail
        refine (num_anyC a 4 _ (.inr (.inr (.inl rfl))) (Nat.le_trans (show a ≤ 4294967295 from by omega) (by decide))).mono ?_
        rintro e w4 ⟨v4, rfl, hown4, hb4⟩
        have hs4 : w.heap.size + 1 ≤ w4.heap.size := Nat.le_trans hs3 hb4.size
        have HX4 := Lib.hid (HX3.out.mono hb4 hs3)
        have HB4 := Lib.hid (HB3.out.trans (hb4.mono (Nat.le_of_succ_le hs3)))
        have HO4 := Lib.hid (ownsRow_below HO3.out hb4 (Nat.le_refl _))
        have HN4 := Lib.hid (IsB.own hown4 (length_le _ _).symm)
        clear hown4 hb4 q0 q1 q2 q3 HX3 HO3 HB3 hs3
        go_wp2_with (at_builtin; refine wpList_append_B (by rfl) _ _ 44 rfl (w.heap.size + 1) 5 i0 Tryz.underlying44 hi hz0 hz1 hz2 _ (hpre a b d N 1) _ rfl HO4.out (length_hpre _ _ _ _ _).symm _ (le a 4) rfl HN4.out (by rw [length_hpre, length_le]; omega) hs4 ?_)
        intro v5 w5 hown5 hb5
        have hs5 : w.heap.size + 1 ≤ w5.heap.size := Nat.le_trans hs4 hb5.size
        have HX5 := Lib.hid (HX4.out.mono hb5 (Nat.lt_succ_self _))
        have HB5 := Lib.hid (HB4.out.trans (hb5.mono (Nat.le_succ _)))
        have HO5 := Lib.hid (show w5.ownsRow (w.heap.size + 1) 5 1 v5 (4 * (1 + 1)) (bvs (hpre a b d N (1 + 1))) from by
          have e : (hpre a b d N 1).length + (le a 4).length = 4 * (1 + 1) := by rw [length_hpre, length_le]
          rw [e] at hown5
          exact hown5)
        clear hown5 hb5 HX4 HO4 HB4 hs4
        go_wp2
        go_roundw
        case rel => exact ⟨1 + 1, by omega, by go_num, HO5, HX5, HB5, hs5⟩
        case measure => simp [intOf]
      · obtain ⟨q0, q1, q2, q3⟩ := HX3.out
        go_wp2_with fail
        refine (num_anyC b 4 _ (.inr (.inr (.inl rfl))) (Nat.le_trans (show b ≤ 4294967295 from by omega) (by decide))).mono ?_
        rintro e w4 ⟨v4, rfl, hown4, hb4⟩
        have hs4 : w.heap.size + 1 ≤ w4.heap.size := Nat.le_trans hs3 hb4.size
        have HX4 := Lib.hid (HX3.out.mono hb4 hs3)
        have HB4 := Lib.hid (HB3.out.trans (hb4.mono (Nat.le_of_succ_le hs3)))
        have HO4 := Lib.hid (ownsRow_below HO3.out hb4 (Nat.le_refl _))
        have HN4 := Lib.hid (IsB.own hown4 (length_le _ _).symm)
        clear hown4 hb4 q0 q1 q2 q3 HX3 HO3 HB3 hs3
        go_wp2_with (at_builtin; refine wpList_append_B (by rfl) _ _ 44 rfl (w.heap.size + 1) 5 i0 Tryz.underlying44 hi hz0 hz1 hz2 _ (hpre a b d N 2) _ rfl HO4.out (length_hpre _ _ _ _ _).symm _ (le b 4) rfl HN4.out (by rw [length_hpre, length_le]; omega) hs4 ?_)
        intro v5 w5 hown5 hb5
        have hs5 : w.heap.size + 1 ≤ w5.heap.size := Nat.le_trans hs4 hb5.size
        have HX5 := Lib.hid (HX4.out.mono hb5 (Nat.lt_succ_self _))
        have HB5 := Lib.hid (HB4.out.trans (hb5.mono (Nat.le_succ _)))
        have HO5 := Lib.hid (show w5.ownsRow (w.heap.size + 1) 5 1 v5 (4 * (2 + 1)) (bvs (hpre a b d N (2 + 1))) from by
          have e : (hpre a b d N 2).length + (le b 4).length = 4 * (2 + 1) := by rw [length_hpre, length_le]
          rw [e] at hown5
          exact hown5)
        clear hown5 hb5 HX4 HO4 HB4 hs4
        go_wp2
        go_roundw
        case rel => exact ⟨2 + 1, by omega, by go_num, HO5, HX5, HB5, hs5⟩
        case measure => simp [intOf]
      · obtain ⟨q0, q1, q2, q3⟩ := HX3.out
        go_wp2_with fail
        refine (num_anyC d 4 _ (.inr (.inr (.inl rfl))) (Nat.le_trans (show d ≤ 4294967295 from by omega) (by decide))).mono ?_
        rintro e w4 ⟨v4, rfl, hown4, hb4⟩
        have hs4 : w.heap.size + 1 ≤ w4.heap.size := Nat.le_trans hs3 hb4.size
        have HX4 := Lib.hid (HX3.out.mono hb4 hs3)
        have HB4 := Lib.hid (HB3.out.trans (hb4.mono (Nat.le_of_succ_le hs3)))
        have HO4 := Lib.hid (ownsRow_below HO3.out hb4 (Nat.le_refl _))
        have HN4 := Lib.hid (IsB.own hown4 (length_le _ _).symm)
        clear hown4 hb4 q0 q1 q2 q3 HX3 HO3 HB3 hs3
        go_wp2_with (at_builtin; refine wpList_append_B (by rfl) _ _ 44 rfl (w.heap.size + 1) 5 i0 Tryz.underlying44 hi hz0 hz1 hz2 _ (hpre a b d N 3) _ rfl HO4.out (length_hpre _ _ _ _ _).symm _ (le d 4) rfl HN4.out (by rw [length_hpre, length_le]; omega) hs4 ?_)
        intro v5 w5 hown5 hb5
        have hs5 : w.heap.size + 1 ≤ w5.heap.size := Nat.le_trans hs4 hb5.size
        have HX5 := Lib.hid (HX4.out.mono hb5 (Nat.lt_succ_self _))
        have HB5 := Lib.hid (HB4.out.trans (hb5.mono (Nat.le_succ _)))
        have HO5 := Lib.hid (show w5.ownsRow (w.heap.size + 1) 5 1 v5 (4 * (3 + 1)) (bvs (hpre a b d N (3 + 1))) from by
          have e : (hpre a b d N 3).length + (le d 4).length = 4 * (3 + 1) := by rw [length_hpre, length_le]
          rw [e] at hown5
          exact hown5)
        clear hown5 hb5 HX4 HO4 HB4 hs4
        go_wp2
        go_roundw
        case rel => exact ⟨3 + 1, by omega, by go_num, HO5, HX5, HB5, hs5⟩
        case measure => simp [intOf]
      · obtain ⟨q0, q1, q2, q3⟩ := HX3.out
        go_wp2_with fail
        refine (num_anyC N 4 _ (.inr (.inr (.inl rfl))) (Nat.le_trans (show N ≤ 4294967295 from by omega) (by decide))).mono ?_
        rintro e w4 ⟨v4, rfl, hown4, hb4⟩
        have hs4 : w.heap.size + 1 ≤ w4.heap.size := Nat.le_trans hs3 hb4.size
        have HX4 := Lib.hid (HX3.out.mono hb4 hs3)
        have HB4 := Lib.hid (HB3.out.trans (hb4.mono (Nat.le_of_succ_le hs3)))
        have HO4 := Lib.hid (ownsRow_below HO3.out hb4 (Nat.le_refl _))
        have HN4 := Lib.hid (IsB.own hown4 (length_le _ _).symm)
        clear hown4 hb4 q0 q1 q2 q3 HX3 HO3 HB3 hs3
        go_wp2_with (at_builtin; refine wpList_append_B (by rfl) _ _ 44 rfl (w.heap.size + 1) 5 i0 Tryz.underlying44 hi hz0 hz1 hz2 _ (hpre a b d N 4) _ rfl HO4.out (length_hpre _ _ _ _ _).symm _ (le N 4) rfl HN4.out (by rw [length_hpre, length_le]; omega) hs4 ?_)
        intro v5 w5 hown5 hb5
        have hs5 : w.heap.size + 1 ≤ w5.heap.size := Nat.le_trans hs4 hb5.size
        have HX5 := Lib.hid (HX4.out.mono hb5 (Nat.lt_succ_self _))
        have HB5 := Lib.hid (HB4.out.trans (hb5.mono (Nat.le_succ _)))
        have HO5 := Lib.hid (show w5.ownsRow (w.heap.size + 1) 5 1 v5 (4 * (4 + 1)) (bvs (hpre a b d N (4 + 1))) from by
          have e : (hpre a b d N 4).length + (le N 4).length = 4 * (4 + 1) := by rw [length_hpre, length_le]
          rw [e] at hown5
          exact hown5)
        clear hown5 hb5 HX4 HO4 HB4 hs4
        go_wp2
        go_roundw
        case rel => exact ⟨4 + 1, by omega, by go_num, HO5, HX5, HB5, hs5⟩
        case measure => simp [intOf]
    · obtain rfl : i = 5 := by omega
      obtain ⟨q0, q1, q2, q3⟩ := HX3.out
      go_wp2_with fail
      clear q0 q1 q2 q3
      go_loopw [5, 43] (fun o k wr => ∃ i : Nat, i ≤ N ∧ k = .int .i64 i ∧ Hid (wr.ownsRow (w.heap.size + 1) 5 1 o (20 + 24 * i) (bvs (hpre a b d N 5 ++ catP (ps.take i)))) ∧ Hid (Below w.heap.size w wr) ∧ w.heap.size + 1 ≤ wr.heap.size) (fun _ k _ => N - (intOf k).toNat)
      case atStart => exact ⟨0, by omega, rfl, Lib.hid (by have := HO3.out; simpa [catP] using this), HB3, hs3⟩
      case round =>
        clear HO3 HX3 HB3 hs3
        obtain ⟨i, hiN, rfl, HO4, HB4, hs4⟩ := hrel
        by_cases hlt2 : i < N
        · have HV4 := Lib.hid (HV.out.mono HB4.out (Nat.le_refl _))
          obtain ⟨p, hp⟩ : ∃ p, pat ps i = p := ⟨_, rfl⟩
          obtain ⟨bp, op, hidx, hcell⟩ := indexAt_P HV4.out 62 141 Tryz.underlying62 Tryz.sizePos i (by rw [HN.out]; exact hlt2)
          rw [hp] at hcell
          have HFp := Lib.hid (show p.fits from by rw [← hp]; exact HF.out _ (List.mem_of_getElem? (get_pat (by rw [HN.out]; exact hlt2))))
          have HCp := Lib.hid (show pcan p = true from by
            have := lOk_at H3.out (i := i) (by rw [HN.out]; exact hlt2)
            unfold pOk at this
            rw [Bool.and_eq_true, hp] at this
            exact this.1)
          have HCT := Lib.hid (show catP (ps.take (i + 1)) = catP (ps.take i) ++ pbytes p from by rw [catP_take (by rw [HN.out]; exact hlt2), hp])
          have HLT := Lib.hid (show (hpre a b d N 5 ++ catP (ps.take i)).length = 20 + 24 * i from by rw [List.length_append, length_hpre, length_catP, List.length_take, HN.out]; omega)
          obtain ⟨X, hX⟩ : ∃ X, X = hpre a b d N 5 ++ catP (ps.take i) := ⟨_, rfl⟩
          rw [← hX] at HO4 HLT
          have HXX := Lib.hid hX
          obtain ⟨k0, k1, k2, k3, k4⟩ := hcell
          clear hp hX
          go_wp2_with fail
          refine (laid_any p _ HFp.out HCp.out).mono ?_
          rintro e w5 ⟨v5, rfl, hown5, hb5⟩
          have hbk : Below wr.heap.size wr (wr.alloc (.cells #[.int .u64 (p.key : Int), .int .i64 p.off, .int .i64 p.len, .int .u32 (p.cookie : Int), .bool p.gone] 141)) := (Below.refl _ _).alloc (Nat.le_refl _) _
          have hb45 : Below wr.heap.size wr w5 := hbk.trans (hb5.mono hbk.size)
          have hs5 : w.heap.size + 1 ≤ w5.heap.size := Nat.le_trans hs4 hb45.size
          have HB5 := Lib.hid (HB4.out.trans (hb45.mono (Nat.le_of_succ_le hs4)))
          have HO5 := Lib.hid (ownsRow_below HO4.out hb45 (Nat.le_refl _))
          have HN5 := Lib.hid (IsB.own hown5 (length_pbytes p).symm)
          clear hown5 hb5 hbk hb45 HO4 HB4 hs4 k0 k1 k2 k3 k4 hidx HV4
          go_wp2_with (at_builtin; refine wpList_append_B (by rfl) _ _ 44 rfl (w.heap.size + 1) 5 i0 Tryz.underlying44 hi hz0 hz1 hz2 _ X _ rfl HO5.out HLT.out.symm _ (pbytes p) rfl HN5.out (by rw [HLT.out, length_pbytes]; omega) hs5 ?_)
          intro v6 w6 hown6 hb6
          have hs6 : w.heap.size + 1 ≤ w6.heap.size := Nat.le_trans hs5 hb6.size
          have HB6 := Lib.hid (HB5.out.trans (hb6.mono (Nat.le_succ _)))
          have HO6 := Lib.hid (show w6.ownsRow (w.heap.size + 1) 5 1 v6 (20 + 24 * (i + 1)) (bvs (hpre a b d N 5 ++ catP (ps.take (i + 1)))) from by
            rw [HCT.out, ← List.append_assoc, ← HXX.out]
            rw [show 20 + 24 * (i + 1) = X.length + (pbytes p).length from by rw [HLT.out, length_pbytes]; omega]
            exact hown6)
          clear hown6 hb6 HB5 HO5 hs5
          go_wp2
          go_roundw
          case rel => exact ⟨_, _, _, _, _, _, _, _, _, _, _, ⟨i + 1, by omega, by go_num, HO6, HB6, hs6⟩, rfl⟩
          case measure => simp [intOf]; omega
        · obtain rfl : N = i := by omega
          have HBd := Lib.hid (show hpre a b d N 5 ++ catP (ps.take N) = cbody ⟨(a : Int), (b : Int), (d : Int), ps⟩ from by
            rw [List.take_of_length_le (by rw [HN.out]; exact Nat.le_refl _), ← HH.out]; rfl)
          rw [HBd.out] at HO4
          obtain ⟨Y, hY⟩ : ∃ Y, Y = cbody ⟨(a : Int), (b : Int), (d : Int), ps⟩ := ⟨_, rfl⟩
          have HYL := Lib.hid (show Y.length + 4 = C.length from by rw [HL.out, hY]; unfold cbody; rw [List.length_append, length_chead, length_catP]; show 20 + 24 * ps.length + 4 = _; rw [HN.out]; omega)
          have HYS := Lib.hid (show sealed Y = C from by rw [HC.out, hY]; rfl)
          rw [← hY] at HO4
          have hYl : Y.length ≤ 1099511627776 := by have := HYL.out; have := HL.out; omega
          have HYB := Lib.hid (IsB.own HO4.out (by have := HYL.out; have := HL.out; omega))
          clear hY
          go_wp2_with fail
          refine (seal_any _ Y _ HYB.out hYl).mono ?_
          rintro e w7 ⟨g, c7, rfl, hown7, hg1, hg2, hb7⟩
          rw [HYL.out] at hown7 ⊢
          rw [HYS.out] at hown7
          have HB7 := Lib.hid (HB4.out.trans (hb7.mono HB4.out.size))
          have HO7 := Lib.hid (ownsRow_base hown7 HB4.out.size)
          clear hown7 hb7
          go_wp2
          go_ret2
          exact ⟨g, c7, rfl, HO7.out, HB7.out⟩

end Go.Proofs.YtdchcepgbbdmhaaGreatDoor.Ck
end
