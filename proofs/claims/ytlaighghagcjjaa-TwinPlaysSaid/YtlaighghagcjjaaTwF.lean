/- Twf, Twg, Tw. -/
import Derived.Test.YtlaighghagcjjaaTwe

section
namespace Go.Proofs.Ytlaighghagcjjaa
open Go.RowKit Go.Cor
set_option linter.unusedVariables false
set_option linter.unusedSimpArgs false

set_option maxHeartbeats 400000 in
theorem tclone (v : Value) (L : List Cm) (w : World) (hv : IsX w 8 v L.length (row ccl L)) (hl : L.length ≤ 1048576) :
    Calls Try.prog 38 #[v] w fun e w' =>
      ∃ v', e = .returned v' ∧ w'.ownsRow w.heap.size 56 8 v' L.length (row ccl L) ∧ Below w.heap.size w w' := by
  obtain ⟨i0, hi, hz0, hz1, hz2⟩ := info_parts Try.infoCmdT
  have q22 : ∀ (w : World) (a : Option Addr) (n c n' c' : Nat), (binOp .eql 63 (.slice a n c) (.slice none n' c')).run Try.prog w = .ok (.bool a.isNone) w := fun w a n c n' c' => Lib.run_eql_slice_nil w _ _ a n c n' c' Try.underlying63
  have HV := Lib.hid hv
  obtain ⟨x, cap, rfl, hlc, hcm, hll, hnc, hcell⟩ := hv
  clear hcell hll
  cases x with
  | none =>
    obtain rfl := hnc rfl
    obtain rfl : L = [] := List.eq_nil_of_length_eq_zero (by omega)
    go_enter Try.func38, Try.ntmps38
    go_wp2
    go_ret
    exact ⟨_, rfl, World.ownsRow_nil _ _ _ _, Below.refl _ _⟩
  | some a =>
    clear hnc
    go_enter Try.func38, Try.ntmps38
    go_wp2_with (at_builtin; refine wpList_append_X (by rfl) _ _ 63 63 rfl (fun _ _ _ => rfl) w.heap.size 56 i0 _ 8 64 Try.underlying63 hi hz0 hz1 hz2 rfl (by decide) _ [] 0 rfl (World.ownsRow_lit _ #[] 0 (Nat.le_refl _) (Nat.zero_le _) rfl) _ L.length _ rfl (HV.out.mono ((Below.refl _ _).alloc (Nat.le_refl _) _) (Nat.le_refl _)) (row_mem fun x _ => ccl_one x) (by unfold maxLen; omega) (by omega) (by simp) ?_; intro v4 w4 hown4 hb4 hl4)
    go_ret
    refine ⟨_, rfl, by simpa using hown4, ((Below.refl _ _).alloc (Nat.le_refl _) _).grown hb4 (by simp) (fun k hk => ?_)⟩
    have : some w.heap.size = some k := hk
    cases this
    exact Nat.le_refl _
set_option maxRecDepth 100000 in
theorem trise_bad (w : World) (g : Nat) (n : Int) (hn : ¬ (0 ≤ n ∧ n ≤ 1)) :
    Calls Try.prog 24 #[pp g, .int .i64 n] w fun e w' => e = .returned (erc 1) ∧ w = w' := by
  have HN := Lib.hid hn
  clear hn
  go_enter Try.func24, Try.ntmps24
  go_wp2_with (go_at_call 30; refine (tcheck_bad _ _ _ HN.out).mono ?_; rintro e w1 ⟨rfl, rfl⟩)
  go_ret
  exact ⟨rfl, rfl⟩
set_option maxRecDepth 100000 in
set_option maxHeartbeats 4000000 in
theorem trise_busy0 (w : World) (B g : Nat) (S : Nat → Prop) (a b : List Cm) (uo ld : Bool) (tm st : Nat) (h : Tw w B g S ⟨a, b, true, uo, ld, tm, st⟩) :
    Calls Try.prog 24 #[pp g, .int .i64 0] w fun e w' => e = .returned (erc 14) ∧ Below w.heap.size w w' := by
  obtain ⟨_, va, vb, h⟩ := h
  have HC := Lib.hid (tcheck_ok w g false)
  rw [show ((sn false : Nat) : Int) = 0 from rfl] at HC
  have k0 : w.cell? ⟨g, 0, none⟩ = some (.bool true) := h.blk.cell 0 rfl
  have k2 : w.cell? ⟨g, 2, none⟩ = some (.bool uo) := h.blk.cell 2 rfl
  have k4 : w.cell? ⟨g, 4, none⟩ = some (.int .i64 (sn ld : Int)) := h.blk.cell 4 rfl
  have k5 : w.cell? ⟨g, 5, none⟩ = some (.int .i64 (tm : Int)) := h.blk.cell 5 rfl
  clear h
  go_enter Try.func24, Try.ntmps24
  go_wp2_with fail
  refine HC.out.mono ?_
  rintro e w1 ⟨rfl, rfl⟩
  go_wp2_with fail
  go_region
  go_wp2
  go_ret
  exact ⟨rfl, below_drewN19 (Below.refl _ _) 1⟩
set_option maxRecDepth 100000 in
set_option maxHeartbeats 4000000 in
theorem trise_down0 (w : World) (B g : Nat) (S : Nat → Prop) (a b : List Cm)  (tm st : Nat) (h : Tw w B g S ⟨a, b, false, false, true, tm, st⟩) :
    Calls Try.prog 24 #[pp g, .int .i64 0] w fun e w' => e = .returned (erc 12) ∧ Below w.heap.size w w' := by
  obtain ⟨_, va, vb, h⟩ := h
  have HC := Lib.hid (tcheck_ok w g false)
  rw [show ((sn false : Nat) : Int) = 0 from rfl] at HC
  have k0 : w.cell? ⟨g, 0, none⟩ = some (.bool false) := h.blk.cell 0 rfl
  have k2 : w.cell? ⟨g, 2, none⟩ = some (.bool false) := h.blk.cell 2 rfl
  have k4 : w.cell? ⟨g, 4, none⟩ = some (.int .i64 (sn true : Int)) := h.blk.cell 4 rfl
  have k5 : w.cell? ⟨g, 5, none⟩ = some (.int .i64 (tm : Int)) := h.blk.cell 5 rfl
  clear h
  simp only [sn, Bool.false_eq_true, if_false, if_true] at k4
  go_enter Try.func24, Try.ntmps24
  go_wp2_with fail
  refine HC.out.mono ?_
  rintro e w1 ⟨rfl, rfl⟩
  go_wp2_with fail
  go_region
  go_wp2
  go_ret
  exact ⟨rfl, below_drewN19 (Below.refl _ _) 1⟩
set_option maxRecDepth 100000 in
set_option maxHeartbeats 4000000 in
theorem trise_again0 (w : World) (B g : Nat) (S : Nat → Prop) (a b : List Cm)  (tm st : Nat) (h : Tw w B g S ⟨a, b, false, false, false, tm, st⟩) (ht : tm ≤ 1001) :
    Calls Try.prog 24 #[pp g, .int .i64 0] w fun e w' => e = .returned .nilIface ∧ TwG w B g S ⟨a, b, true, false, false, tm + 1, st⟩ w' := by
  obtain ⟨_, va, vb, h⟩ := h
  have HC := Lib.hid (tcheck_ok w g false)
  rw [show ((sn false : Nat) : Int) = 0 from rfl] at HC
  have k0 : w.cell? ⟨g, 0, none⟩ = some (.bool false) := h.blk.cell 0 rfl
  have k2 : w.cell? ⟨g, 2, none⟩ = some (.bool false) := h.blk.cell 2 rfl
  have k4 : w.cell? ⟨g, 4, none⟩ = some (.int .i64 (sn false : Int)) := h.blk.cell 4 rfl
  have k5 : w.cell? ⟨g, 5, none⟩ = some (.int .i64 (tm : Int)) := h.blk.cell 5 rfl
  have HV := Lib.hid (h.drewN 1)
  have H1 := Lib.hid (HV.out.set 5 (.int .i64 ((tm : Int) + 1)) ⟨a, b, false, false, false, tm + 1, st⟩ (by simp [pcs]) rfl rfl)
  have H2 := Lib.hid (H1.out.set 0 (.bool true) ⟨a, b, true, false, false, tm + 1, st⟩ (by simp [pcs]) rfl rfl)
  have HK := Lib.hid (((kept_drew20 S w 1).setCell (p := ⟨g, 5, none⟩) (.inl h.sg) (.int .i64 ((tm : Int) + 1))).setCell (p := ⟨g, 0, none⟩) (.inl h.sg) (.bool true))
  have hw9 : wrap64 ((tm : Int) + 1) = (tm : Int) + 1 := IntWalk.wrap64_in _ (by omega)
  have f0 := h.blk.free 0
  have f5 := h.blk.free 5
  clear h
  simp only [sn, Bool.false_eq_true, if_false, if_true] at k4
  go_enter Try.func24, Try.ntmps24
  go_wp2_with fail
  refine HC.out.mono ?_
  rintro e w1 ⟨rfl, rfl⟩
  go_wp2_with fail
  go_region
  go_wp2
  go_ret
  exact ⟨rfl, ⟨_, _, _, H2.out, fun k hk => .inl hk, HK.out⟩⟩
set_option maxRecDepth 100000 in
set_option maxHeartbeats 4000000 in
theorem trise_beside0 (w : World) (B g : Nat) (S : Nat → Prop) (a b : List Cm) (ld : Bool) (tm st : Nat) (h : Tw w B g S ⟨a, b, false, true, ld, tm, st⟩) (hl : b.length ≤ 1000) :
    Calls Try.prog 24 #[pp g, .int .i64 0] w fun e w' => e = .returned .nilIface ∧ TwG w B g S ⟨b, b, true, true, ld, tm, st⟩ w' := by
  obtain ⟨_, va, vb, h⟩ := h
  have HC := Lib.hid (tcheck_ok w g false)
  rw [show ((sn false : Nat) : Int) = 0 from rfl] at HC
  have k0 : w.cell? ⟨g, 0, none⟩ = some (.bool false) := h.blk.cell 0 rfl
  have k2 : w.cell? ⟨g, 2, none⟩ = some (.bool true) := h.blk.cell 2 rfl
  have k4 : w.cell? ⟨g, 4, none⟩ = some (.int .i64 (sn ld : Int)) := h.blk.cell 4 rfl
  have k5 : w.cell? ⟨g, 5, none⟩ = some (.int .i64 (tm : Int)) := h.blk.cell 5 rfl
  have HV := Lib.hid (h.drewN 1)
  have HK0 := Lib.hid (kept_drew20 S w 1)
  have kl : w.cell? ⟨g, 3, none⟩ = some vb := h.blk.cell 3 rfl
  have HL := Lib.hid hl
  clear h hl
  go_enter Try.func24, Try.ntmps24
  go_wp2_with fail
  refine HC.out.mono ?_
  rintro e w1 ⟨rfl, rfl⟩
  go_wp2_with fail
  go_region
  go_wp2_with fail
  refine (tclone vb b _ (isX_cmd HV.out.rb) (Nat.le_trans HL.out (by decide))).mono ?_
  rintro e w3 ⟨v3, rfl, h3, hb3⟩
  obtain ⟨x3, c3, rfl, _, _⟩ := ownsRow_slice h3
  have HB3 := Lib.hid hb3
  have HV3 := Lib.hid (HV.out.below hb3)
  have HL3 := Lib.hid (HV.out.logA (l := b) (ownsRow_base h3 (Nat.le_of_lt (Nat.lt_of_le_of_lt (HV.out.lt g HV.out.sg).1 (HV.out.lt g HV.out.sg).2))) (Kept.of_below hb3 (Nat.le_refl _)) (.inr (fun k e => (h3.lt k e).1)))
  have f1 := HV3.out.blk.free 1
  have f0 := HV3.out.blk.free 0
  have kk0 := HV3.out.blk.cell 0 rfl
  have kk1 := HV3.out.blk.cell 1 rfl
  have H4 := Lib.hid (HL3.out.1.set 0 (.bool true) ⟨b, b, true, true, ld, tm, st⟩ (by simp [pcs]) rfl rfl)
  have HK4 := Lib.hid ((HK0.out.trans HL3.out.2.2 (fun j e _ => e)).setCell (p := ⟨g, 0, none⟩) (.inl HV.out.sg) (.bool true))
  have HS4 := Lib.hid HL3.out.2.1
  clear h3 hb3 HL3 kl k0 k2 k4 k5
  go_wp2
  go_ret
  exact ⟨rfl, ⟨_, _, _, H4.out, HS4.out, HK4.out⟩⟩
set_option maxRecDepth 100000 in
set_option maxHeartbeats 4000000 in
theorem trise_busy1 (w : World) (B g : Nat) (S : Nat → Prop) (a b : List Cm) (uo ld : Bool) (tm st : Nat) (h : Tw w B g S ⟨a, b, uo, true, ld, tm, st⟩) :
    Calls Try.prog 24 #[pp g, .int .i64 1] w fun e w' => e = .returned (erc 14) ∧ Below w.heap.size w w' := by
  obtain ⟨_, va, vb, h⟩ := h
  have HC := Lib.hid (tcheck_ok w g true)
  rw [show ((sn true : Nat) : Int) = 1 from rfl] at HC
  have k0 : w.cell? ⟨g, 0, none⟩ = some (.bool uo) := h.blk.cell 0 rfl
  have k2 : w.cell? ⟨g, 2, none⟩ = some (.bool true) := h.blk.cell 2 rfl
  have k4 : w.cell? ⟨g, 4, none⟩ = some (.int .i64 (sn ld : Int)) := h.blk.cell 4 rfl
  have k5 : w.cell? ⟨g, 5, none⟩ = some (.int .i64 (tm : Int)) := h.blk.cell 5 rfl
  clear h
  go_enter Try.func24, Try.ntmps24
  go_wp2_with fail
  refine HC.out.mono ?_
  rintro e w1 ⟨rfl, rfl⟩
  go_wp2_with fail
  go_region
  go_wp2
  go_ret
  exact ⟨rfl, below_drewN19 (Below.refl _ _) 1⟩
set_option maxRecDepth 100000 in
set_option maxHeartbeats 4000000 in
theorem trise_down1 (w : World) (B g : Nat) (S : Nat → Prop) (a b : List Cm)  (tm st : Nat) (h : Tw w B g S ⟨a, b, false, false, false, tm, st⟩) :
    Calls Try.prog 24 #[pp g, .int .i64 1] w fun e w' => e = .returned (erc 12) ∧ Below w.heap.size w w' := by
  obtain ⟨_, va, vb, h⟩ := h
  have HC := Lib.hid (tcheck_ok w g true)
  rw [show ((sn true : Nat) : Int) = 1 from rfl] at HC
  have k0 : w.cell? ⟨g, 0, none⟩ = some (.bool false) := h.blk.cell 0 rfl
  have k2 : w.cell? ⟨g, 2, none⟩ = some (.bool false) := h.blk.cell 2 rfl
  have k4 : w.cell? ⟨g, 4, none⟩ = some (.int .i64 (sn false : Int)) := h.blk.cell 4 rfl
  have k5 : w.cell? ⟨g, 5, none⟩ = some (.int .i64 (tm : Int)) := h.blk.cell 5 rfl
  clear h
  simp only [sn, Bool.false_eq_true, if_false, if_true] at k4
  go_enter Try.func24, Try.ntmps24
  go_wp2_with fail
  refine HC.out.mono ?_
  rintro e w1 ⟨rfl, rfl⟩
  go_wp2_with fail
  go_region
  go_wp2
  go_ret
  exact ⟨rfl, below_drewN19 (Below.refl _ _) 1⟩
set_option maxRecDepth 100000 in
set_option maxHeartbeats 4000000 in
theorem trise_again1 (w : World) (B g : Nat) (S : Nat → Prop) (a b : List Cm)  (tm st : Nat) (h : Tw w B g S ⟨a, b, false, false, true, tm, st⟩) (ht : tm ≤ 1001) :
    Calls Try.prog 24 #[pp g, .int .i64 1] w fun e w' => e = .returned .nilIface ∧ TwG w B g S ⟨a, b, false, true, true, tm + 1, st⟩ w' := by
  obtain ⟨_, va, vb, h⟩ := h
  have HC := Lib.hid (tcheck_ok w g true)
  rw [show ((sn true : Nat) : Int) = 1 from rfl] at HC
  have k0 : w.cell? ⟨g, 0, none⟩ = some (.bool false) := h.blk.cell 0 rfl
  have k2 : w.cell? ⟨g, 2, none⟩ = some (.bool false) := h.blk.cell 2 rfl
  have k4 : w.cell? ⟨g, 4, none⟩ = some (.int .i64 (sn true : Int)) := h.blk.cell 4 rfl
  have k5 : w.cell? ⟨g, 5, none⟩ = some (.int .i64 (tm : Int)) := h.blk.cell 5 rfl
  have HV := Lib.hid (h.drewN 1)
  have H1 := Lib.hid (HV.out.set 5 (.int .i64 ((tm : Int) + 1)) ⟨a, b, false, false, true, tm + 1, st⟩ (by simp [pcs]) rfl rfl)
  have H2 := Lib.hid (H1.out.set 2 (.bool true) ⟨a, b, false, true, true, tm + 1, st⟩ (by simp [pcs]) rfl rfl)
  have HK := Lib.hid (((kept_drew20 S w 1).setCell (p := ⟨g, 5, none⟩) (.inl h.sg) (.int .i64 ((tm : Int) + 1))).setCell (p := ⟨g, 2, none⟩) (.inl h.sg) (.bool true))
  have hw9 : wrap64 ((tm : Int) + 1) = (tm : Int) + 1 := IntWalk.wrap64_in _ (by omega)
  have f0 := h.blk.free 2
  have f5 := h.blk.free 5
  clear h
  simp only [sn, Bool.false_eq_true, if_false, if_true] at k4
  go_enter Try.func24, Try.ntmps24
  go_wp2_with fail
  refine HC.out.mono ?_
  rintro e w1 ⟨rfl, rfl⟩
  go_wp2_with fail
  go_region
  go_wp2
  go_ret
  exact ⟨rfl, ⟨_, _, _, H2.out, fun k hk => .inl hk, HK.out⟩⟩
set_option maxRecDepth 100000 in
set_option maxHeartbeats 4000000 in
theorem trise_beside1 (w : World) (B g : Nat) (S : Nat → Prop) (a b : List Cm) (ld : Bool) (tm st : Nat) (h : Tw w B g S ⟨a, b, true, false, ld, tm, st⟩) (hl : a.length ≤ 1000) :
    Calls Try.prog 24 #[pp g, .int .i64 1] w fun e w' => e = .returned .nilIface ∧ TwG w B g S ⟨a, a, true, true, ld, tm, st⟩ w' := by
  obtain ⟨_, va, vb, h⟩ := h
  have HC := Lib.hid (tcheck_ok w g true)
  rw [show ((sn true : Nat) : Int) = 1 from rfl] at HC
  have k0 : w.cell? ⟨g, 0, none⟩ = some (.bool true) := h.blk.cell 0 rfl
  have k2 : w.cell? ⟨g, 2, none⟩ = some (.bool false) := h.blk.cell 2 rfl
  have k4 : w.cell? ⟨g, 4, none⟩ = some (.int .i64 (sn ld : Int)) := h.blk.cell 4 rfl
  have k5 : w.cell? ⟨g, 5, none⟩ = some (.int .i64 (tm : Int)) := h.blk.cell 5 rfl
  have HV := Lib.hid (h.drewN 1)
  have HK0 := Lib.hid (kept_drew20 S w 1)
  have kl : w.cell? ⟨g, 1, none⟩ = some va := h.blk.cell 1 rfl
  have HL := Lib.hid hl
  clear h hl
  go_enter Try.func24, Try.ntmps24
  go_wp2_with fail
  refine HC.out.mono ?_
  rintro e w1 ⟨rfl, rfl⟩
  go_wp2_with fail
  go_region
  go_wp2_with fail
  refine (tclone va a _ (isX_cmd HV.out.ra) (Nat.le_trans HL.out (by decide))).mono ?_
  rintro e w3 ⟨v3, rfl, h3, hb3⟩
  obtain ⟨x3, c3, rfl, _, _⟩ := ownsRow_slice h3
  have HB3 := Lib.hid hb3
  have HV3 := Lib.hid (HV.out.below hb3)
  have HL3 := Lib.hid (HV.out.logB (l := a) (ownsRow_base h3 (Nat.le_of_lt (Nat.lt_of_le_of_lt (HV.out.lt g HV.out.sg).1 (HV.out.lt g HV.out.sg).2))) (Kept.of_below hb3 (Nat.le_refl _)) (.inr (fun k e => (h3.lt k e).1)))
  have f1 := HV3.out.blk.free 3
  have f0 := HV3.out.blk.free 2
  have kk0 := HV3.out.blk.cell 2 rfl
  have kk1 := HV3.out.blk.cell 3 rfl
  have H4 := Lib.hid (HL3.out.1.set 2 (.bool true) ⟨a, a, true, true, ld, tm, st⟩ (by simp [pcs]) rfl rfl)
  have HK4 := Lib.hid ((HK0.out.trans HL3.out.2.2 (fun j e _ => e)).setCell (p := ⟨g, 2, none⟩) (.inl HV.out.sg) (.bool true))
  have HS4 := Lib.hid HL3.out.2.1
  clear h3 hb3 HL3 kl k0 k2 k4 k5
  go_wp2
  go_ret
  exact ⟨rfl, ⟨_, _, _, H4.out, HS4.out, HK4.out⟩⟩
theorem trise (w : World) (B g : Nat) (S : Nat → Prop) (p : Pr) (n : Int) (h : Tw w B g S p) (ho : p.Ok) (hl : p.Le 1000) :
    Calls Try.prog 24 #[pp g, .int .i64 n] w fun e w' => e = .returned (derr (riseK p n)) ∧ TwT w B g S (riseP p n) w' := by
  have hset := rise_set ho h.1 n
  have hsm := fun w' hb => h.same (w' := w') hb
  by_cases hn : 0 ≤ n ∧ n ≤ 1
  · obtain ⟨s, rfl⟩ : ∃ s, n = (sn s : Int) := ⟨sd n, (sn_sd hn).symm⟩
    have hst := h.1
    unfold Pr.Set at hst
    have hla := hl.log
    have htm := hl.tm.2
    obtain ⟨a, b, u0, u1, ld, tm, st⟩ := p
    have hla0 := hla false
    have hla1 := hla true
    simp only [Pr.log, Bool.false_eq_true, if_false, if_true] at hla0 hla1 hst
    dsimp only at htm
    cases s
    · cases u0
      · cases u1
        · cases ld
          · have e : riseP ⟨a, b, false, false, false, tm, st⟩ (sn false : Int) = ⟨a, b, true, false, false, tm + 1, st⟩ := by
              simp [Pr.up] at hst
              simp [riseP, riseK, Pr.up, Pr.log, Pr.setUp, Pr.settle, Pr.next, sn, sd]
              omega
            exact (trise_again0 w B g S a b tm st h (by omega)).mono fun x w' hx => ⟨hx.1, (e ▸ hx.2 : TwG w B g S (riseP ⟨a, b, false, false, false, tm, st⟩ (sn false : Int)) w').twT hset⟩
          · have e : riseP ⟨a, b, false, false, true, tm, st⟩ (sn false : Int) = ⟨a, b, false, false, true, tm, st⟩ := by
              simp [riseP, riseK, Pr.up, sn, sd]
            rw [e]
            exact (trise_down0 w B g S a b tm st h).mono fun x w' hx => ⟨hx.1, hsm _ hx.2⟩
        · have e : riseP ⟨a, b, false, true, ld, tm, st⟩ (sn false : Int) = ⟨b, b, true, true, ld, tm, st⟩ := by
            simp [riseP, riseK, Pr.up, Pr.log, Pr.setLog, Pr.setUp, sn, sd]
          exact (trise_beside0 w B g S a b ld tm st h hla1).mono fun x w' hx => ⟨hx.1, (e ▸ hx.2 : TwG w B g S (riseP ⟨a, b, false, true, ld, tm, st⟩ (sn false : Int)) w').twT hset⟩
      · have e : riseP ⟨a, b, true, u1, ld, tm, st⟩ (sn false : Int) = ⟨a, b, true, u1, ld, tm, st⟩ := by
          simp [riseP, riseK, Pr.up, sn, sd]
        have eK : riseK ⟨a, b, true, u1, ld, tm, st⟩ (sn false : Int) = 14 := by
          simp [riseK, Pr.up, sn, sd]
        rw [e, eK, derr_pos (by decide)]
        exact (trise_busy0 w B g S a b u1 ld tm st h).mono fun x w' hx => ⟨hx.1, hsm _ hx.2⟩
    · cases u1
      · cases u0
        · cases ld
          · have e : riseP ⟨a, b, false, false, false, tm, st⟩ (sn true : Int) = ⟨a, b, false, false, false, tm, st⟩ := by
              simp [riseP, riseK, Pr.up, sn, sd]
            rw [e]
            exact (trise_down1 w B g S a b tm st h).mono fun x w' hx => ⟨hx.1, hsm _ hx.2⟩
          · have e : riseP ⟨a, b, false, false, true, tm, st⟩ (sn true : Int) = ⟨a, b, false, true, true, tm + 1, st⟩ := by
              simp [Pr.up] at hst
              simp [riseP, riseK, Pr.up, Pr.log, Pr.setUp, Pr.settle, Pr.next, sn, sd]
              omega
            exact (trise_again1 w B g S a b tm st h (by omega)).mono fun x w' hx => ⟨hx.1, (e ▸ hx.2 : TwG w B g S (riseP ⟨a, b, false, false, true, tm, st⟩ (sn true : Int)) w').twT hset⟩
        · have e : riseP ⟨a, b, true, false, ld, tm, st⟩ (sn true : Int) = ⟨a, a, true, true, ld, tm, st⟩ := by
            simp [riseP, riseK, Pr.up, Pr.log, Pr.setLog, Pr.setUp, sn, sd]
          exact (trise_beside1 w B g S a b ld tm st h hla0).mono fun x w' hx => ⟨hx.1, (e ▸ hx.2 : TwG w B g S (riseP ⟨a, b, true, false, ld, tm, st⟩ (sn true : Int)) w').twT hset⟩
      · have e : riseP ⟨a, b, u0, true, ld, tm, st⟩ (sn true : Int) = ⟨a, b, u0, true, ld, tm, st⟩ := by
          simp [riseP, riseK, Pr.up, sn, sd]
        have eK : riseK ⟨a, b, u0, true, ld, tm, st⟩ (sn true : Int) = 14 := by
          simp [riseK, Pr.up, sn, sd]
        rw [e, eK, derr_pos (by decide)]
        exact (trise_busy1 w B g S a b u0 ld tm st h).mono fun x w' hx => ⟨hx.1, hsm _ hx.2⟩
  · have hK : riseK p n = 1 := by unfold riseK; rw [if_neg hn]
    have hP : riseP p n = p := by unfold riseP; rw [hK]; rfl
    rw [hK, hP, derr_pos (by decide)]
    exact (trise_bad w g n hn).mono fun x w' hx => ⟨hx.1, hsm _ (hx.2 ▸ Below.refl _ _)⟩
end Go.Proofs.Ytlaighghagcjjaa
end

section
namespace Go.Proofs.Ytlaighghagcjjaa
open Go.RowKit Go.Cor
set_option linter.unusedVariables false
set_option linter.unusedSimpArgs false

set_option maxRecDepth 100000 in
set_option maxHeartbeats 4000000 in
theorem tmap0 (w : World) (B g : Nat) (S : Nat → Prop) (p : Pr) (h : Tw w B g S p) (hl : p.a.length ≤ 1000) :
    Calls Try.prog 16 #[pp g, .int .i64 0] w fun e w' => ∃ g' S', e = .returned (pp g') ∧ Mp w' w.heap.size g' S' (repL [] p.a) ∧ Below w.heap.size w w' := by
  obtain ⟨_, va, vb, h⟩ := h
  have HC := Lib.hid (tcheck_ok w g false)
  rw [show ((sn false : Nat) : Int) = 0 from rfl] at HC
  have k1 : w.cell? ⟨g, 1, none⟩ = some va := h.blk.cell 1 rfl
  have HR := Lib.hid (dreplay w va p.a (isX_cmd h.ra) (Nat.le_trans hl (by decide)))
  clear h hl
  go_enter Try.func16, Try.ntmps16
  go_wp2_with fail
  refine HC.out.mono ?_
  rintro e w1 ⟨rfl, rfl⟩
  go_wp2_with fail
  refine HR.out.mono ?_
  rintro e w3 ⟨g3, S3, rfl, h3, hb3⟩
  have HM3 := Lib.hid h3
  have HB3 := Lib.hid hb3
  clear h3 hb3 k1
  go_wp2
  go_ret
  exact ⟨g3, S3, rfl, HM3.out, HB3.out⟩
set_option maxRecDepth 100000 in
set_option maxHeartbeats 4000000 in
theorem tmap1 (w : World) (B g : Nat) (S : Nat → Prop) (p : Pr) (h : Tw w B g S p) (hl : p.b.length ≤ 1000) :
    Calls Try.prog 16 #[pp g, .int .i64 1] w fun e w' => ∃ g' S', e = .returned (pp g') ∧ Mp w' w.heap.size g' S' (repL [] p.b) ∧ Below w.heap.size w w' := by
  obtain ⟨_, va, vb, h⟩ := h
  have HC := Lib.hid (tcheck_ok w g true)
  rw [show ((sn true : Nat) : Int) = 1 from rfl] at HC
  have k1 : w.cell? ⟨g, 3, none⟩ = some vb := h.blk.cell 3 rfl
  have HR := Lib.hid (dreplay w vb p.b (isX_cmd h.rb) (Nat.le_trans hl (by decide)))
  clear h hl
  go_enter Try.func16, Try.ntmps16
  go_wp2_with fail
  refine HC.out.mono ?_
  rintro e w1 ⟨rfl, rfl⟩
  go_wp2_with fail
  refine HR.out.mono ?_
  rintro e w3 ⟨g3, S3, rfl, h3, hb3⟩
  have HM3 := Lib.hid h3
  have HB3 := Lib.hid hb3
  clear h3 hb3 k1
  go_wp2
  go_ret
  exact ⟨g3, S3, rfl, HM3.out, HB3.out⟩
theorem tmap (w : World) (B g : Nat) (S : Nat → Prop) (p : Pr) (s : Bool) (h : Tw w B g S p) (hl : p.Le 1000) :
    Calls Try.prog 16 #[pp g, .int .i64 (sn s : Int)] w fun e w' => ∃ g' S', e = .returned (pp g') ∧ Mp w' w.heap.size g' S' (repL [] (p.log s)) ∧ Below w.heap.size w w' := by
  cases s
  · exact tmap0 w B g S p h (hl.log false)
  · exact tmap1 w B g S p h (hl.log true)
end Go.Proofs.Ytlaighghagcjjaa
end

section
set_option linter.unusedVariables false
set_option linter.unusedSimpArgs false
namespace Go.Proofs.Ytlaighghagcjjaa
end Go.Proofs.Ytlaighghagcjjaa
end
