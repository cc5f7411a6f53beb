/- Package disk: the calls of no disk: by contracts. -/
import Derived.Test.YtnofabeajcdddaaCrash
namespace Go.Proofs.Ytnofabeajcdddaa
open Go.RowKit Go.Cor

theorem find_nil (n : ByteArray) (w : World) : Calls Try.prog 38 #[.pointer none, .string n] w fun e w' => e = .returned (.tuple #[.pointer none, ercode 15]) ∧ w = w' := by
  go_enter Try.func38, Try.ntmps38
  go_wp2_with fail
  refine (up_nil _).mono ?_
  rintro e w' ⟨rfl, rfl⟩
  go_wp2
  go_ret2
  exact ⟨rfl, rfl⟩
theorem create_nil (n : ByteArray) (w : World) : Calls Try.prog 18 #[.pointer none, .string n] w fun e w' => e = .returned (ercode 15) ∧ w = w' := by
  go_enter Try.func18, Try.ntmps18
  go_wp2_with fail
  refine (up_nil _).mono ?_
  rintro e w' ⟨rfl, rfl⟩
  go_wp2
  go_ret
  exact ⟨rfl, rfl⟩
theorem append_nil (n : ByteArray) (v : Value) (w : World) : Calls Try.prog 19 #[.pointer none, .string n, v] w fun e w' => e = .returned (ercode 15) ∧ w = w' := by
  go_enter Try.func19, Try.ntmps19
  go_wp2_with fail
  refine (find_nil n _).mono ?_
  rintro e w' ⟨rfl, rfl⟩
  go_wp2
  go_ret
  exact ⟨rfl, rfl⟩
theorem sync_nil (n : ByteArray) (w : World) : Calls Try.prog 20 #[.pointer none, .string n] w fun e w' => e = .returned (ercode 15) ∧ w = w' := by
  go_enter Try.func20, Try.ntmps20
  go_wp2_with fail
  refine (find_nil n _).mono ?_
  rintro e w' ⟨rfl, rfl⟩
  go_wp2
  go_ret
  exact ⟨rfl, rfl⟩
theorem syncNames_nil (w : World) : Calls Try.prog 21 #[.pointer none] w fun e w' => e = .returned (ercode 15) ∧ w = w' := by
  go_enter Try.func21, Try.ntmps21
  go_wp2_with fail
  refine (up_nil _).mono ?_
  rintro e w' ⟨rfl, rfl⟩
  go_wp2
  go_ret
  exact ⟨rfl, rfl⟩
theorem rename_nil (n t : ByteArray) (w : World) : Calls Try.prog 23 #[.pointer none, .string n, .string t] w fun e w' => e = .returned (ercode 15) ∧ w = w' := by
  go_enter Try.func23, Try.ntmps23
  go_wp2_with fail
  refine (find_nil n _).mono ?_
  rintro e w' ⟨rfl, rfl⟩
  go_wp2
  go_ret
  exact ⟨rfl, rfl⟩
theorem remove_nil (n : ByteArray) (w : World) : Calls Try.prog 31 #[.pointer none, .string n] w fun e w' => e = .returned (ercode 15) ∧ w = w' := by
  go_enter Try.func31, Try.ntmps31
  go_wp2_with fail
  refine (find_nil n _).mono ?_
  rintro e w' ⟨rfl, rfl⟩
  go_wp2
  go_ret
  exact ⟨rfl, rfl⟩
theorem cut_nil (n : ByteArray) (z : Int) (w : World) : Calls Try.prog 32 #[.pointer none, .string n, .int .i64 z] w fun e w' => e = .returned (ercode 15) ∧ w = w' := by
  go_enter Try.func32, Try.ntmps32
  go_wp2_with fail
  refine (find_nil n _).mono ?_
  rintro e w' ⟨rfl, rfl⟩
  go_wp2
  go_ret
  exact ⟨rfl, rfl⟩
theorem arm_nil (z : Int) (w : World) : Calls Try.prog 22 #[.pointer none, .int .i64 z] w fun e w' => e = .returned (ercode 15) ∧ w = w' := by
  go_enter Try.func22, Try.ntmps22
  go_wp2_with fail
  refine (up_nil _).mono ?_
  rintro e w' ⟨rfl, rfl⟩
  go_wp2
  go_ret
  exact ⟨rfl, rfl⟩
theorem crash_nil (z : Int) (v : Value) (w : World) (hv : ∃ x n c, v = .slice x n c) : Calls Try.prog 25 #[.pointer none, .agg #[.int .i64 z, v]] w fun e w' => e = .returned (ercode 15) ∧ Below w.heap.size w w' := by
  obtain ⟨x, n, c, rfl⟩ := hv
  go_enter Try.func25, Try.ntmps25
  go_wp2
  go_ret
  exact ⟨rfl, (Below.refl _ _).alloc (Nat.le_refl _) _⟩
theorem spoil_nil (n : ByteArray) (z : Int) (x : Int) (w : World) : Calls Try.prog 33 #[.pointer none, .string n, .int .i64 z, .int .u8 x] w fun e w' => e = .returned (ercode 15) ∧ w = w' := by
  go_enter Try.func33, Try.ntmps33
  go_wp2_with fail
  refine (find_nil n _).mono ?_
  rintro e w' ⟨rfl, rfl⟩
  go_wp2
  go_ret
  exact ⟨rfl, rfl⟩
theorem read_nil (n : ByteArray) (z x : Int) (w : World) : Calls Try.prog 17 #[.pointer none, .string n, .int .i64 z, .int .i64 x] w fun e w' => e = .returned (.tuple #[.slice none 0 0, ercode 15]) ∧ w = w' := by
  go_enter Try.func17, Try.ntmps17
  go_wp2_with fail
  refine (find_nil n _).mono ?_
  rintro e w' ⟨rfl, rfl⟩
  go_wp2
  go_ret2
  exact ⟨rfl, rfl⟩
theorem size_nil (n : ByteArray) (w : World) : Calls Try.prog 27 #[.pointer none, .string n] w fun e w' => e = .returned (.tuple #[.int .i64 0, ercode 15]) ∧ w = w' := by
  go_enter Try.func27, Try.ntmps27
  go_wp2_with fail
  refine (find_nil n _).mono ?_
  rintro e w' ⟨rfl, rfl⟩
  go_wp2
  go_ret2
  exact ⟨rfl, rfl⟩
theorem names_nil (w : World) : Calls Try.prog 28 #[.pointer none] w fun e w' => e = .returned (.slice none 0 0) ∧ w = w' := by
  go_enter Try.func28, Try.ntmps28
  go_wp2
  go_ret
  exact ⟨rfl, rfl⟩
theorem used_nil (w : World) : Calls Try.prog 29 #[.pointer none] w fun e w' => e = .returned (.int .i64 0) ∧ w = w' := by
  go_enter Try.func29, Try.ntmps29
  go_wp2
  go_ret
  exact ⟨rfl, rfl⟩
theorem down_nil (w : World) : Calls Try.prog 24 #[.pointer none] w fun e w' => e = .returned (.bool false) ∧ w = w' := by
  go_enter Try.func24, Try.ntmps24
  go_wp2
  go_ret
  exact ⟨rfl, rfl⟩

end Go.Proofs.Ytnofabeajcdddaa
