/- slices.Insert at tables: the walks, the memory told by equations. -/
import Derived.Test.YtnofabeajcdddaaTabd
import Derived.Deep.RegionHeld3
namespace Go.Proofs.Ytnofabeajcdddaa
open Go.RowKit Go.Cor

set_option maxRecDepth 100000 in
set_option maxHeartbeats 2000000 in
theorem walk_grow (V V0 VI SV V2 VD1 VD2 : Value) (i N k : Nat) (w w1 w2 w3 : World) (hi : i < N) (hl : N ≤ 1048576) (hkk : (N : Int) + 1 - (i : Int) = (k : Int)) (hne : ((i : Int) == (N : Int)) = false) (hgt : ¬ ((N : Int) + 1 ≤ (N : Int)))
    (hlen : ∀ W, (Builtin.len_ #[79] 3 #[V]).run Try.prog W = .ok (.int .i64 (N : Int)) W) (hcap : ∀ (W : World) (ty : TypeId), (Builtin.cap_ #[79] ty #[V]).run Try.prog W = .ok (goInt N) W)
    (hS1 : ∀ W, (Builtin.len_ #[78] 3 #[SV]).run Try.prog W = .ok (.int .i64 1) W)
    (hsI : ∀ W, (Instr.slice 79 V (some (.int .i64 (i : Int))) none none).run Try.prog W = .ok VI W)
    (hs0 : ∀ W, (Instr.slice 79 V none (some (.int .i64 (i : Int))) none).run Try.prog W = .ok V0 W)
    (hsD1 : ∀ W, (Instr.slice 79 V2 (some (.int .i64 (i : Int))) none none).run Try.prog W = .ok VD1 W)
    (hsD2 : ∀ W, (Instr.slice 79 V2 (some (.int .i64 ((i : Int) + 1))) none none).run Try.prog W = .ok VD2 W)
    (HAP : Hid ((Builtin.append_ #[79, 3] 79 #[V0, .int .i64 (k : Int)]).run Try.prog w = .ok V2 w1)) (x1 x2 : Value)
    (HC1 : Hid (∀ ty, (Builtin.copy_ #[79, 78] ty #[VD1, SV]).run Try.prog w1 = .ok x1 w2))
    (HC2 : Hid (∀ ty, (Builtin.copy_ #[79, 79] ty #[VD2, VI]).run Try.prog w2.drew = .ok x2 w3)) (hwr : IntKind.i64.wrap ((i : Int) + 1) = (i : Int) + 1) :
    Calls Try.prog 62 #[V, .int .i64 (i : Int), SV] w fun e w' => e = .returned V2 ∧ w' = w3 := by
  go_enter Try.func62, Try.ntmps62
  go_wp2_with (first | (at_builtin; refine Lib.wpList_append_run _ rfl _ _ 79 3 rfl _ _ rfl rfl _ _ HAP.out ?_) | (refine wpList_copy_run (o := ⟨some 45, _, _, _, _, _⟩) rfl _ _ 79 78 rfl _ _ rfl rfl (HC1.out _) ?_))
  go_region_held3 (fun _ => True) (trivial) (first | (refine step_copy_run rfl _ _ 79 79 rfl _ _ rfl rfl (HC2.out _) ?_))
  go_wp2
  go_ret
  exact ⟨rfl, rfl⟩

set_option maxRecDepth 100000 in
set_option maxHeartbeats 2000000 in
theorem walk_room (V V3 VI VS VD SV : Value) (i N cap : Nat) (w w2 w3 : World) (hi : i < N) (hl : N ≤ 1048576) (hne : ((i : Int) == (N : Int)) = false) (hgt : (N : Int) + 1 ≤ (cap : Int))
    (hlen : ∀ W, (Builtin.len_ #[79] 3 #[V]).run Try.prog W = .ok (.int .i64 (N : Int)) W) (hcap : ∀ (W : World) (ty : TypeId), (Builtin.cap_ #[79] ty #[V]).run Try.prog W = .ok (goInt cap) W)
    (hS1 : ∀ W, (Builtin.len_ #[78] 3 #[SV]).run Try.prog W = .ok (.int .i64 1) W)
    (hsI : ∀ W, (Instr.slice 79 V (some (.int .i64 (i : Int))) none none).run Try.prog W = .ok VI W)
    (hs3 : ∀ W, (Instr.slice 79 V none (some (.int .i64 ((N : Int) + 1))) none).run Try.prog W = .ok V3 W)
    (hsS : ∀ W, (Instr.slice 79 V3 (some (.int .i64 (i : Int))) none none).run Try.prog W = .ok VS W)
    (hsD : ∀ W, (Instr.slice 79 V3 (some (.int .i64 ((i : Int) + 1))) none none).run Try.prog W = .ok VD W)
    (hov : (callFunc 67 #[SV, VD]).run Try.prog w = .ok (.value (.bool false)) w) (x1 x2 : Value)
    (HC1 : Hid (∀ ty, (Builtin.copy_ #[79, 79] ty #[VD, VS]).run Try.prog w.drew = .ok x1 w2))
    (HC2 : Hid (∀ ty, (Builtin.copy_ #[79, 78] ty #[VS, SV]).run Try.prog w2 = .ok x2 w3)) (hwr : IntKind.i64.wrap ((i : Int) + 1) = (i : Int) + 1) :
    Calls Try.prog 62 #[V, .int .i64 (i : Int), SV] w fun e w' => e = .returned V3 ∧ w' = w3 := by
  go_enter Try.func62, Try.ntmps62
  go_wp2_with (simp only [hov])
  go_region_held3 (fun _ => True) (trivial) (first | (refine step_copy_run rfl _ _ 79 79 rfl _ _ rfl rfl (HC1.out _) ?_))
  go_wp2_with (refine wpList_copy_run (o := ⟨some 82, _, _, _, _, _⟩) rfl _ _ 79 78 rfl _ _ rfl rfl (HC2.out _) ?_)
  go_ret
  exact ⟨rfl, rfl⟩

end Go.Proofs.Ytnofabeajcdddaa
