/- Package twin: Fall. -/
import Derived.Test.YtlaighghagcjjaaTwd
namespace Go.Proofs.Ytlaighghagcjjaa
open Go.RowKit Go.Cor
set_option linter.unusedVariables false
set_option linter.unusedSimpArgs false

set_option maxRecDepth 100000 in
theorem tfall_bad (w : World) (g : Nat) (n : Int) (hn : ¬ (0 ≤ n ∧ n ≤ 1)) :
    Calls Try.prog 23 #[pp g, .int .i64 n] w fun e w' => e = .returned (erc 1) ∧ w = w' := by
  have HN := Lib.hid hn
  clear hn
  go_enter Try.func23, Try.ntmps23
  go_wp2_with (go_at_call 30; refine (tcheck_bad _ _ _ HN.out).mono ?_; rintro e w1 ⟨rfl, rfl⟩)
  go_ret
  exact ⟨rfl, rfl⟩
set_option maxRecDepth 100000 in
set_option maxHeartbeats 2000000 in
theorem tfall_down (w : World) (B g : Nat) (S : Nat → Prop) (p : Pr) (s : Bool) (h : Tw w B g S p) (hu : p.up s = false) :
    Calls Try.prog 23 #[pp g, .int .i64 (sn s : Int)] w fun e w' => e = .returned (erc 12) ∧ w = w' := by
  obtain ⟨_, va, vb, h⟩ := h
  have HC := Lib.hid (tcheck_ok w g s)
  have HD := Lib.hid (tdoes w g va vb p s h.blk)
  rw [show doesN p s = 0 from by unfold doesN; rw [hu]; rfl] at HD
  obtain ⟨N, hN⟩ : ∃ N, sn s = N := ⟨_, rfl⟩
  rw [hN] at HC HD ⊢
  clear h hu hN
  go_enter Try.func23, Try.ntmps23
  go_wp2_with (first | (go_at_call 30; refine HC.out.mono ?_; rintro e w1 ⟨rfl, rfl⟩) | (go_at_call 36; refine HD.out.mono ?_; rintro e w1 ⟨rfl, rfl⟩))
  go_ret
  exact ⟨rfl, rfl⟩
set_option maxRecDepth 100000 in
set_option maxHeartbeats 4000000 in
theorem tfall_lead0 (w : World) (B g : Nat) (S : Nat → Prop) (a b : List Cm) (tm st : Nat) (h : Tw w B g S ⟨a, b, true, true, false, tm, st⟩) (ht : tm ≤ 1001) :
    Calls Try.prog 23 #[pp g, .int .i64 0] w fun e w' => e = .returned .nilIface ∧ TwG w B g S ⟨a, b, false, true, true, tm + 1, b.length⟩ w' := by
  obtain ⟨_, va, vb, h⟩ := h
  have HC := Lib.hid (tcheck_ok w g false)
  rw [show ((sn false : Nat) : Int) = 0 from rfl] at HC
  have HD := Lib.hid (tdoes w g va vb ⟨a, b, true, true, false, tm, st⟩ false h.blk)
  rw [show ((sn false : Nat) : Int) = 0 from rfl, show doesN ⟨a, b, true, true, false, tm, st⟩ false = 2 from rfl] at HD
  have HV := Lib.hid h
  have f0 := h.blk.free 0
  have f4 := h.blk.free 4
  have f5 := h.blk.free 5
  have k4 : w.cell? ⟨g, 4, none⟩ = some (.int .i64 (sn (⟨a, b, true, true, false, tm, st⟩ : Pr).ld : Int)) := h.blk.cell 4 rfl
  have k5 : w.cell? ⟨g, 5, none⟩ = some (.int .i64 (tm : Int)) := h.blk.cell 5 rfl
  have k0 : w.cell? ⟨g, 0, none⟩ = some (.bool true) := h.blk.cell 0 rfl
  have H1 := Lib.hid (h.set 0 (.bool false) ⟨a, b, false, true, false, tm, st⟩ (by simp [pcs]) rfl rfl)
  have H2 := Lib.hid (H1.out.set 4 (.int .i64 1) ⟨a, b, false, true, true, tm, st⟩ (by simp [pcs, sn]) rfl rfl)
  have H3 := Lib.hid (H2.out.set 5 (.int .i64 ((tm : Int) + 1)) ⟨a, b, false, true, true, tm + 1, st⟩ (by simp [pcs]) rfl rfl)
  have HK := Lib.hid ((((Kept.refl S w).setCell (p := ⟨g, 0, none⟩) (.inl h.sg) (.bool false)).setCell (p := ⟨g, 4, none⟩) (.inl h.sg) (.int .i64 1)).setCell (p := ⟨g, 5, none⟩) (.inl h.sg) (.int .i64 ((tm : Int) + 1)))
  have hw9 : wrap64 ((tm : Int) + 1) = (tm : Int) + 1 := IntWalk.wrap64_in _ (by omega)
  clear h
  go_enter Try.func23, Try.ntmps23
  go_wp2_with (first | (go_at_call 30; refine HC.out.mono ?_; rintro e w1 ⟨rfl, rfl⟩) | (go_at_call 36; refine HD.out.mono ?_; rintro e w1 ⟨rfl, rfl⟩))
  obtain ⟨w3, hw3⟩ : ∃ w3, ((w.setCell ⟨g, 0, none⟩ (.bool false)).setCell ⟨g, 4, none⟩ (.int .i64 1)).setCell ⟨g, 5, none⟩ (.int .i64 ((tm : Int) + 1)) = w3 := ⟨_, rfl⟩
  rw [hw3] at H3 HK ⊢
  clear hw3 k4 k5 k0 f0 f4 f5
  refine (tsettle _ B g _ _ _ _ H3.out).mono ?_
  rintro e w8 ⟨rfl, n8, hw8⟩
  have h9 : TwV w8 B g S va vb ⟨a, b, false, true, true, tm + 1, b.length⟩ := by
    rw [hw8]
    refine (H3.out.drewN n8).set 6 _ ⟨a, b, false, true, true, tm + 1, b.length⟩ ?_ rfl rfl
    simp [pcs, Pr.log]
  have h10 : Kept S w w8 := by
    rw [hw8]
    exact HK.out.trans ((kept_drew20 _ w3 n8).setCell (p := ⟨g, 6, none⟩) (.inl H3.out.sg) _) (fun j e hj => e)
  have HV9 := Lib.hid h9
  have HK9 := Lib.hid h10
  clear h9 h10 hw8
  go_wp2
  go_ret
  exact ⟨rfl, ⟨_, _, _, HV9.out, fun k hk => .inl hk, HK9.out⟩⟩
set_option maxRecDepth 100000 in
set_option maxHeartbeats 4000000 in
theorem tfall_foll0 (w : World) (B g : Nat) (S : Nat → Prop) (a b : List Cm) (tm st : Nat) (h : Tw w B g S ⟨a, b, true, true, true, tm, st⟩) :
    Calls Try.prog 23 #[pp g, .int .i64 0] w fun e w' => e = .returned .nilIface ∧ TwG w B g S ⟨a, b, false, true, true, tm, b.length⟩ w' := by
  obtain ⟨_, va, vb, h⟩ := h
  have HC := Lib.hid (tcheck_ok w g false)
  rw [show ((sn false : Nat) : Int) = 0 from rfl] at HC
  have HD := Lib.hid (tdoes w g va vb ⟨a, b, true, true, true, tm, st⟩ false h.blk)
  rw [show ((sn false : Nat) : Int) = 0 from rfl, show doesN ⟨a, b, true, true, true, tm, st⟩ false = 1 from rfl] at HD
  have HV := Lib.hid h
  have f0 := h.blk.free 0
  have f4 := h.blk.free 4
  have f5 := h.blk.free 5
  have k4 : w.cell? ⟨g, 4, none⟩ = some (.int .i64 (sn (⟨a, b, true, true, true, tm, st⟩ : Pr).ld : Int)) := h.blk.cell 4 rfl
  have k5 : w.cell? ⟨g, 5, none⟩ = some (.int .i64 (tm : Int)) := h.blk.cell 5 rfl
  have k0 : w.cell? ⟨g, 0, none⟩ = some (.bool true) := h.blk.cell 0 rfl
  have H1 := Lib.hid (h.set 0 (.bool false) ⟨a, b, false, true, true, tm, st⟩ (by simp [pcs]) rfl rfl)
  have HK := Lib.hid ((Kept.refl S w).setCell (p := ⟨g, 0, none⟩) (.inl h.sg) (.bool false))
  clear h
  go_enter Try.func23, Try.ntmps23
  go_wp2_with (first | (go_at_call 30; refine HC.out.mono ?_; rintro e w1 ⟨rfl, rfl⟩) | (go_at_call 36; refine HD.out.mono ?_; rintro e w1 ⟨rfl, rfl⟩))
  obtain ⟨w3, hw3⟩ : ∃ w3, w.setCell ⟨g, 0, none⟩ (.bool false) = w3 := ⟨_, rfl⟩
  rw [hw3] at H1 HK ⊢
  clear hw3 k4 k5 k0 f0 f4 f5
  refine (tsettle _ B g _ _ _ _ H1.out).mono ?_
  rintro e w8 ⟨rfl, n8, hw8⟩
  have h9 : TwV w8 B g S va vb ⟨a, b, false, true, true, tm, b.length⟩ := by
    rw [hw8]
    refine (H1.out.drewN n8).set 6 _ ⟨a, b, false, true, true, tm, b.length⟩ ?_ rfl rfl
    simp [pcs, Pr.log]
  have h10 : Kept S w w8 := by
    rw [hw8]
    exact HK.out.trans ((kept_drew20 _ w3 n8).setCell (p := ⟨g, 6, none⟩) (.inl H1.out.sg) _) (fun j e hj => e)
  have HV9 := Lib.hid h9
  have HK9 := Lib.hid h10
  clear h9 h10 hw8
  go_wp2
  go_ret
  exact ⟨rfl, ⟨_, _, _, HV9.out, fun k hk => .inl hk, HK9.out⟩⟩
set_option maxRecDepth 100000 in
set_option maxHeartbeats 4000000 in
theorem tfall_alone0 (w : World) (B g : Nat) (S : Nat → Prop) (a b : List Cm) (tm st : Nat) (h : Tw w B g S ⟨a, b, true, false, false, tm, st⟩) :
    Calls Try.prog 23 #[pp g, .int .i64 0] w fun e w' => e = .returned .nilIface ∧ TwG w B g S ⟨a, b, false, false, false, tm, st⟩ w' := by
  obtain ⟨_, va, vb, h⟩ := h
  have HC := Lib.hid (tcheck_ok w g false)
  rw [show ((sn false : Nat) : Int) = 0 from rfl] at HC
  have HD := Lib.hid (tdoes w g va vb ⟨a, b, true, false, false, tm, st⟩ false h.blk)
  rw [show ((sn false : Nat) : Int) = 0 from rfl, show doesN ⟨a, b, true, false, false, tm, st⟩ false = 3 from rfl] at HD
  have HV := Lib.hid h
  have f0 := h.blk.free 0
  have f4 := h.blk.free 4
  have f5 := h.blk.free 5
  have k4 : w.cell? ⟨g, 4, none⟩ = some (.int .i64 (sn (⟨a, b, true, false, false, tm, st⟩ : Pr).ld : Int)) := h.blk.cell 4 rfl
  have k5 : w.cell? ⟨g, 5, none⟩ = some (.int .i64 (tm : Int)) := h.blk.cell 5 rfl
  have k0 : w.cell? ⟨g, 0, none⟩ = some (.bool true) := h.blk.cell 0 rfl
  have H1 := Lib.hid (h.set 0 (.bool false) ⟨a, b, false, false, false, tm, st⟩ (by simp [pcs]) rfl rfl)
  have HK := Lib.hid ((Kept.refl S w).setCell (p := ⟨g, 0, none⟩) (.inl h.sg) (.bool false))
  clear h
  go_enter Try.func23, Try.ntmps23
  go_wp2_with (first | (go_at_call 30; refine HC.out.mono ?_; rintro e w1 ⟨rfl, rfl⟩) | (go_at_call 36; refine HD.out.mono ?_; rintro e w1 ⟨rfl, rfl⟩))
  go_ret
  exact ⟨rfl, ⟨_, _, _, H1.out, fun k hk => .inl hk, HK.out⟩⟩
set_option maxRecDepth 100000 in
set_option maxHeartbeats 4000000 in
theorem tfall_lead1 (w : World) (B g : Nat) (S : Nat → Prop) (a b : List Cm) (tm st : Nat) (h : Tw w B g S ⟨a, b, true, true, true, tm, st⟩) (ht : tm ≤ 1001) :
    Calls Try.prog 23 #[pp g, .int .i64 1] w fun e w' => e = .returned .nilIface ∧ TwG w B g S ⟨a, b, true, false, false, tm + 1, a.length⟩ w' := by
  obtain ⟨_, va, vb, h⟩ := h
  have HC := Lib.hid (tcheck_ok w g true)
  rw [show ((sn true : Nat) : Int) = 1 from rfl] at HC
  have HD := Lib.hid (tdoes w g va vb ⟨a, b, true, true, true, tm, st⟩ true h.blk)
  rw [show ((sn true : Nat) : Int) = 1 from rfl, show doesN ⟨a, b, true, true, true, tm, st⟩ true = 2 from rfl] at HD
  have HV := Lib.hid h
  have f0 := h.blk.free 2
  have f4 := h.blk.free 4
  have f5 := h.blk.free 5
  have k4 : w.cell? ⟨g, 4, none⟩ = some (.int .i64 (sn (⟨a, b, true, true, true, tm, st⟩ : Pr).ld : Int)) := h.blk.cell 4 rfl
  have k5 : w.cell? ⟨g, 5, none⟩ = some (.int .i64 (tm : Int)) := h.blk.cell 5 rfl
  have k0 : w.cell? ⟨g, 2, none⟩ = some (.bool true) := h.blk.cell 2 rfl
  have H1 := Lib.hid (h.set 2 (.bool false) ⟨a, b, true, false, true, tm, st⟩ (by simp [pcs]) rfl rfl)
  have H2 := Lib.hid (H1.out.set 4 (.int .i64 0) ⟨a, b, true, false, false, tm, st⟩ (by simp [pcs, sn]) rfl rfl)
  have H3 := Lib.hid (H2.out.set 5 (.int .i64 ((tm : Int) + 1)) ⟨a, b, true, false, false, tm + 1, st⟩ (by simp [pcs]) rfl rfl)
  have HK := Lib.hid ((((Kept.refl S w).setCell (p := ⟨g, 2, none⟩) (.inl h.sg) (.bool false)).setCell (p := ⟨g, 4, none⟩) (.inl h.sg) (.int .i64 0)).setCell (p := ⟨g, 5, none⟩) (.inl h.sg) (.int .i64 ((tm : Int) + 1)))
  have hw9 : wrap64 ((tm : Int) + 1) = (tm : Int) + 1 := IntWalk.wrap64_in _ (by omega)
  clear h
  go_enter Try.func23, Try.ntmps23
  go_wp2_with (first | (go_at_call 30; refine HC.out.mono ?_; rintro e w1 ⟨rfl, rfl⟩) | (go_at_call 36; refine HD.out.mono ?_; rintro e w1 ⟨rfl, rfl⟩))
  obtain ⟨w3, hw3⟩ : ∃ w3, ((w.setCell ⟨g, 2, none⟩ (.bool false)).setCell ⟨g, 4, none⟩ (.int .i64 0)).setCell ⟨g, 5, none⟩ (.int .i64 ((tm : Int) + 1)) = w3 := ⟨_, rfl⟩
  rw [hw3] at H3 HK ⊢
  clear hw3 k4 k5 k0 f0 f4 f5
  refine (tsettle _ B g _ _ _ _ H3.out).mono ?_
  rintro e w8 ⟨rfl, n8, hw8⟩
  have h9 : TwV w8 B g S va vb ⟨a, b, true, false, false, tm + 1, a.length⟩ := by
    rw [hw8]
    refine (H3.out.drewN n8).set 6 _ ⟨a, b, true, false, false, tm + 1, a.length⟩ ?_ rfl rfl
    simp [pcs, Pr.log]
  have h10 : Kept S w w8 := by
    rw [hw8]
    exact HK.out.trans ((kept_drew20 _ w3 n8).setCell (p := ⟨g, 6, none⟩) (.inl H3.out.sg) _) (fun j e hj => e)
  have HV9 := Lib.hid h9
  have HK9 := Lib.hid h10
  clear h9 h10 hw8
  go_wp2
  go_ret
  exact ⟨rfl, ⟨_, _, _, HV9.out, fun k hk => .inl hk, HK9.out⟩⟩
set_option maxRecDepth 100000 in
set_option maxHeartbeats 4000000 in
theorem tfall_foll1 (w : World) (B g : Nat) (S : Nat → Prop) (a b : List Cm) (tm st : Nat) (h : Tw w B g S ⟨a, b, true, true, false, tm, st⟩) :
    Calls Try.prog 23 #[pp g, .int .i64 1] w fun e w' => e = .returned .nilIface ∧ TwG w B g S ⟨a, b, true, false, false, tm, a.length⟩ w' := by
  obtain ⟨_, va, vb, h⟩ := h
  have HC := Lib.hid (tcheck_ok w g true)
  rw [show ((sn true : Nat) : Int) = 1 from rfl] at HC
  have HD := Lib.hid (tdoes w g va vb ⟨a, b, true, true, false, tm, st⟩ true h.blk)
  rw [show ((sn true : Nat) : Int) = 1 from rfl, show doesN ⟨a, b, true, true, false, tm, st⟩ true = 1 from rfl] at HD
  have HV := Lib.hid h
  have f0 := h.blk.free 2
  have f4 := h.blk.free 4
  have f5 := h.blk.free 5
  have k4 : w.cell? ⟨g, 4, none⟩ = some (.int .i64 (sn (⟨a, b, true, true, false, tm, st⟩ : Pr).ld : Int)) := h.blk.cell 4 rfl
  have k5 : w.cell? ⟨g, 5, none⟩ = some (.int .i64 (tm : Int)) := h.blk.cell 5 rfl
  have k0 : w.cell? ⟨g, 2, none⟩ = some (.bool true) := h.blk.cell 2 rfl
  have H1 := Lib.hid (h.set 2 (.bool false) ⟨a, b, true, false, false, tm, st⟩ (by simp [pcs]) rfl rfl)
  have HK := Lib.hid ((Kept.refl S w).setCell (p := ⟨g, 2, none⟩) (.inl h.sg) (.bool false))
  clear h
  go_enter Try.func23, Try.ntmps23
  go_wp2_with (first | (go_at_call 30; refine HC.out.mono ?_; rintro e w1 ⟨rfl, rfl⟩) | (go_at_call 36; refine HD.out.mono ?_; rintro e w1 ⟨rfl, rfl⟩))
  obtain ⟨w3, hw3⟩ : ∃ w3, w.setCell ⟨g, 2, none⟩ (.bool false) = w3 := ⟨_, rfl⟩
  rw [hw3] at H1 HK ⊢
  clear hw3 k4 k5 k0 f0 f4 f5
  refine (tsettle _ B g _ _ _ _ H1.out).mono ?_
  rintro e w8 ⟨rfl, n8, hw8⟩
  have h9 : TwV w8 B g S va vb ⟨a, b, true, false, false, tm, a.length⟩ := by
    rw [hw8]
    refine (H1.out.drewN n8).set 6 _ ⟨a, b, true, false, false, tm, a.length⟩ ?_ rfl rfl
    simp [pcs, Pr.log]
  have h10 : Kept S w w8 := by
    rw [hw8]
    exact HK.out.trans ((kept_drew20 _ w3 n8).setCell (p := ⟨g, 6, none⟩) (.inl H1.out.sg) _) (fun j e hj => e)
  have HV9 := Lib.hid h9
  have HK9 := Lib.hid h10
  clear h9 h10 hw8
  go_wp2
  go_ret
  exact ⟨rfl, ⟨_, _, _, HV9.out, fun k hk => .inl hk, HK9.out⟩⟩
set_option maxRecDepth 100000 in
set_option maxHeartbeats 4000000 in
theorem tfall_alone1 (w : World) (B g : Nat) (S : Nat → Prop) (a b : List Cm) (tm st : Nat) (h : Tw w B g S ⟨a, b, false, true, true, tm, st⟩) :
    Calls Try.prog 23 #[pp g, .int .i64 1] w fun e w' => e = .returned .nilIface ∧ TwG w B g S ⟨a, b, false, false, true, tm, st⟩ w' := by
  obtain ⟨_, va, vb, h⟩ := h
  have HC := Lib.hid (tcheck_ok w g true)
  rw [show ((sn true : Nat) : Int) = 1 from rfl] at HC
  have HD := Lib.hid (tdoes w g va vb ⟨a, b, false, true, true, tm, st⟩ true h.blk)
  rw [show ((sn true : Nat) : Int) = 1 from rfl, show doesN ⟨a, b, false, true, true, tm, st⟩ true = 3 from rfl] at HD
  have HV := Lib.hid h
  have f0 := h.blk.free 2
  have f4 := h.blk.free 4
  have f5 := h.blk.free 5
  have k4 : w.cell? ⟨g, 4, none⟩ = some (.int .i64 (sn (⟨a, b, false, true, true, tm, st⟩ : Pr).ld : Int)) := h.blk.cell 4 rfl
  have k5 : w.cell? ⟨g, 5, none⟩ = some (.int .i64 (tm : Int)) := h.blk.cell 5 rfl
  have k0 : w.cell? ⟨g, 2, none⟩ = some (.bool true) := h.blk.cell 2 rfl
  have H1 := Lib.hid (h.set 2 (.bool false) ⟨a, b, false, false, true, tm, st⟩ (by simp [pcs]) rfl rfl)
  have HK := Lib.hid ((Kept.refl S w).setCell (p := ⟨g, 2, none⟩) (.inl h.sg) (.bool false))
  clear h
  go_enter Try.func23, Try.ntmps23
  go_wp2_with (first | (go_at_call 30; refine HC.out.mono ?_; rintro e w1 ⟨rfl, rfl⟩) | (go_at_call 36; refine HD.out.mono ?_; rintro e w1 ⟨rfl, rfl⟩))
  go_ret
  exact ⟨rfl, ⟨_, _, _, H1.out, fun k hk => .inl hk, HK.out⟩⟩
theorem tfall (w : World) (B g : Nat) (S : Nat → Prop) (p : Pr) (n : Int) (h : Tw w B g S p) (ho : p.Ok) (hl : p.Le 1000) :
    Calls Try.prog 23 #[pp g, .int .i64 n] w fun e w' => e = .returned (derr (fallK p n)) ∧ TwT w B g S (fallP p n) w' := by
  have hset := fall_set ho h.1 n
  by_cases hn : 0 ≤ n ∧ n ≤ 1
  · obtain ⟨s, rfl⟩ : ∃ s, n = (sn s : Int) := ⟨sd n, (sn_sd hn).symm⟩
    by_cases hu : p.up s = true
    · have hK : fallK p (sn s) = 0 := by unfold fallK; rw [if_pos hn, sd_sn, if_pos hu]
      rw [hK, derr_zero]
      have hst := ho.st
      have hfo := fun hx => (ho.fo hx).1
      have hf2 := fun hx => (ho.fo hx).2.2
      have hle := fun hx => ho.le hx
      obtain ⟨a, b, u0, u1, ld, tm, st⟩ := p
      cases s
      · obtain rfl : u0 = true := hu
        cases ld
        · cases u1
          · have e : fallP ⟨a, b, true, false, false, tm, st⟩ (sn false : Int) = ⟨a, b, false, false, false, tm, st⟩ := by
              simp [fallP, fallK, Pr.up, Pr.log, Pr.setUp, Pr.settle, Pr.next, sn, sd]
            exact (tfall_alone0 w B g S a b tm st h).mono fun x w' hx => ⟨hx.1, (e ▸ hx.2 : TwG w B g S (fallP ⟨a, b, true, false, false, tm, st⟩ (sn false : Int)) w').twT hset⟩
          · have hst := hf2 rfl
            simp only [Pr.log, Bool.not_false, Bool.not_true, Bool.false_eq_true, if_true, if_false] at hst
            have e : fallP ⟨a, b, true, true, false, tm, st⟩ (sn false : Int) = ⟨a, b, false, true, true, tm + 1, b.length⟩ := by
              simp [fallP, fallK, Pr.up, Pr.log, Pr.setUp, Pr.settle, Pr.next, sn, sd]
              omega
            exact (tfall_lead0 w B g S a b tm st h (by have := hl.tm.2; dsimp only at this; omega)).mono fun x w' hx => ⟨hx.1, (e ▸ hx.2 : TwG w B g S (fallP ⟨a, b, true, true, false, tm, st⟩ (sn false : Int)) w').twT hset⟩
        · cases u1
          · exact absurd (hfo rfl) (by simp [Pr.up])
          · simp only [Pr.log, Bool.false_eq_true, if_true, if_false] at hst
            have e : fallP ⟨a, b, true, true, true, tm, st⟩ (sn false : Int) = ⟨a, b, false, true, true, tm, b.length⟩ := by
              simp [fallP, fallK, Pr.up, Pr.log, Pr.setUp, Pr.settle, Pr.next, sn, sd]
              omega
            exact (tfall_foll0 w B g S a b tm st h).mono fun x w' hx => ⟨hx.1, (e ▸ hx.2 : TwG w B g S (fallP ⟨a, b, true, true, true, tm, st⟩ (sn false : Int)) w').twT hset⟩
      · obtain rfl : u1 = true := hu
        cases ld
        · cases u0
          · exact absurd (hfo rfl) (by simp [Pr.up])
          · simp only [Pr.log, Bool.false_eq_true, if_true, if_false] at hst
            have e : fallP ⟨a, b, true, true, false, tm, st⟩ (sn true : Int) = ⟨a, b, true, false, false, tm, a.length⟩ := by
              simp [fallP, fallK, Pr.up, Pr.log, Pr.setUp, Pr.settle, Pr.next, sn, sd]
              omega
            exact (tfall_foll1 w B g S a b tm st h).mono fun x w' hx => ⟨hx.1, (e ▸ hx.2 : TwG w B g S (fallP ⟨a, b, true, true, false, tm, st⟩ (sn true : Int)) w').twT hset⟩
        · cases u0
          · have e : fallP ⟨a, b, false, true, true, tm, st⟩ (sn true : Int) = ⟨a, b, false, false, true, tm, st⟩ := by
              simp [fallP, fallK, Pr.up, Pr.log, Pr.setUp, Pr.settle, Pr.next, sn, sd]
            exact (tfall_alone1 w B g S a b tm st h).mono fun x w' hx => ⟨hx.1, (e ▸ hx.2 : TwG w B g S (fallP ⟨a, b, false, true, true, tm, st⟩ (sn true : Int)) w').twT hset⟩
          · have hst := hf2 rfl
            simp only [Pr.log, Bool.not_false, Bool.not_true, Bool.false_eq_true, if_true, if_false] at hst
            have e : fallP ⟨a, b, true, true, true, tm, st⟩ (sn true : Int) = ⟨a, b, true, false, false, tm + 1, a.length⟩ := by
              simp [fallP, fallK, Pr.up, Pr.log, Pr.setUp, Pr.settle, Pr.next, sn, sd]
              omega
            exact (tfall_lead1 w B g S a b tm st h (by have := hl.tm.2; dsimp only at this; omega)).mono fun x w' hx => ⟨hx.1, (e ▸ hx.2 : TwG w B g S (fallP ⟨a, b, true, true, true, tm, st⟩ (sn true : Int)) w').twT hset⟩
    · have hK : fallK p (sn s) = 12 := by unfold fallK; rw [if_pos hn, sd_sn, if_neg hu]
      have hP : fallP p (sn s) = p := by unfold fallP; rw [hK]; rfl
      rw [hK, hP, derr_pos (by decide)]
      exact (tfall_down w B g S p s h (by simpa using hu)).mono fun x w' hx => ⟨hx.1, h.same (hx.2 ▸ Below.refl _ _)⟩
  · have hK : fallK p n = 1 := by unfold fallK; rw [if_neg hn]
    have hP : fallP p n = p := by unfold fallP; rw [hK]; rfl
    rw [hK, hP, derr_pos (by decide)]
    exact (tfall_bad w g n hn).mono fun x w' hx => ⟨hx.1, h.same (hx.2 ▸ Below.refl _ _)⟩
end Go.Proofs.Ytlaighghagcjjaa
