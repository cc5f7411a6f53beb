/- Package dirs: its nodes, its entries, what turns one: by contracts. -/
import Derived.Test.YtlaighghagcjjaaDn
namespace Go.Proofs.Ytlaighghagcjjaa
open Go.RowKit Go.Cor
set_option linter.unusedVariables false
set_option linter.unusedSimpArgs false

/-- The first i nodes are as told. -/
def upto3 (a b c : Int) : Nat → Prop
  | 0 => True
  | 1 => near a
  | 2 => near a ∧ near b ∧ a ≠ b
  | _ => near a ∧ near b ∧ near c ∧ a ≠ b ∧ a ≠ c ∧ b ≠ c
abbrev all3 (a b c : Int) : Prop := near a ∧ near b ∧ near c ∧ a ≠ b ∧ a ≠ c ∧ b ≠ c
theorem no0 {a b c : Int} (h : a ∈ ([] : List Int)) : ¬ all3 a b c := by cases h
theorem no1 {a b c : Int} (h : b ∈ [a]) : ¬ all3 a b c := by
  simp at h
  rintro ⟨_, _, _, h1, _, _⟩
  exact h1 h.symm
theorem no2 {a b c : Int} (h : c ∈ [a, b]) : ¬ all3 a b c := by
  simp at h
  rintro ⟨_, _, _, _, h1, h2⟩
  rcases h with h | h
  · exact h1 h.symm
  · exact h2 h.symm
theorem bad0 {a b c : Int} (h : ¬ near a) : ¬ all3 a b c := fun h1 => h h1.1
theorem bad1 {a b c : Int} (h : ¬ near b) : ¬ all3 a b c := fun h1 => h h1.2.1
theorem bad2 {a b c : Int} (h : ¬ near c) : ¬ all3 a b c := fun h1 => h h1.2.2.1
theorem up0 {a b c : Int} (h : upto3 a b c 0) (hn : near a) (hm : ¬ a ∈ ([] : List Int)) : upto3 a b c 1 := hn
theorem up1 {a b c : Int} (h : upto3 a b c 1) (hn : near b) (hm : ¬ b ∈ [a]) : upto3 a b c 2 := ⟨h, hn, fun e => hm (by simp [e])⟩
theorem up2 {a b c : Int} (h : upto3 a b c 2) (hn : near c) (hm : ¬ c ∈ [a, b]) : upto3 a b c 3 := ⟨h.1, h.2.1, hn, h.2.2, fun e => hm (by simp [e]), fun e => hm (by simp [e])⟩
theorem index_arr3 {P : Program} (T U : TypeId) (hT : P.underlying T = some (.array 3 U)) (hU : P.underlying U = some (.int .i64)) (hs : (P.info? U).map (·.size) = some 1) (a b c : Int) :
    (∀ W, (Instr.index T (.agg #[.int .i64 a, .int .i64 b, .int .i64 c]) (.int .i64 0)).run P W = .ok (.int .i64 a) W) ∧ (∀ W, (Instr.index T (.agg #[.int .i64 a, .int .i64 b, .int .i64 c]) (.int .i64 1)).run P W = .ok (.int .i64 b) W) ∧ ∀ W, (Instr.index T (.agg #[.int .i64 a, .int .i64 b, .int .i64 c]) (.int .i64 2)).run P W = .ok (.int .i64 c) W := by
  obtain ⟨j, hj1, hj2⟩ := Option.map_eq_some_iff.1 hs
  have hsz : ∀ W, (sizeOf U).run P W = .ok 1 W := fun W => by simp [sizeOf, typeInfo, hj1, hj2]
  have hA : ∀ W, (isAgg U).run P W = .ok false W := fun W => by simp [isAgg, run_underlying hU]
  refine ⟨fun W => ?_, fun W => ?_, fun W => ?_⟩ <;> simp [Instr.index, run_underlying hT, asIntOf, hsz, part, hA, go_sem]
theorem isX_arr3 (w : World) (a b c : Int) (T : TypeId) : IsX (w.alloc (.cells #[.int .i64 a, .int .i64 b, .int .i64 c] T)) 1 (.slice (some ⟨w.heap.size, 0, none⟩) 3 3) 3 (ints [a, b, c]) :=
  IsX.lit w #[.int .i64 a, .int .i64 b, .int .i64 c] T 1 3 rfl (by decide)
set_option maxRecDepth 100000 in
set_option maxHeartbeats 2000000 in
/-- The three nodes of a command, as add hands them on. -/
theorem dright (a b c : Int) (w : World) : Calls Try.prog 52 #[.agg #[.int .i64 a, .int .i64 b, .int .i64 c]] w fun e w' => e = .returned (.bool (decide (near a ∧ near b ∧ near c ∧ a ≠ b ∧ a ≠ c ∧ b ≠ c))) ∧ Below w.heap.size w w' := by
  have HB := Lib.hid ((Below.refl w.heap.size w).alloc (Nat.le_refl _) (.cells #[.int .i64 a, .int .i64 b, .int .i64 c] 31))
  have HX := Lib.hid (isX_arr3 w a b c 31)
  obtain ⟨w1, hw1⟩ : ∃ w1, w.alloc (.cells #[.int .i64 a, .int .i64 b, .int .i64 c] 31) = w1 := ⟨_, rfl⟩
  have hK : w1.cell? ⟨w.heap.size, 0, none⟩ = some (.int .i64 a) ∧ w1.cell? ⟨w.heap.size, 1, none⟩ = some (.int .i64 b) ∧ w1.cell? ⟨w.heap.size, 2, none⟩ = some (.int .i64 c) := by
    subst hw1
    exact ⟨(Blk.new w _ _).cell 0 rfl, (Blk.new w _ _).cell 1 rfl, (Blk.new w _ _).cell 2 rfl⟩
  rw [hw1] at HB HX
  have HW := Lib.hid hw1
  clear hw1
  obtain ⟨G, hG⟩ : ∃ G, w.heap.size = G := ⟨_, rfl⟩
  rw [hG] at HX hK
  obtain ⟨c0, c1, c2⟩ := hK
  obtain ⟨i0, i1, i2⟩ := index_arr3 (P := Try.prog) 31 3 Try.underlying31 Try.underlying3 Try.sizeInt19 a b c
  go_enter Try.func52, Try.ntmps52
  go_wp2_with fail
  rw [HW.out]
  go_loopw [6] (fun k wr => ∃ i : Nat, i ≤ 3 ∧ k = .int .i64 i ∧ wr = w1 ∧ Hid (upto3 a b c i)) (fun k _ => 3 - (intOf k).toNat)
  case atStart => exact ⟨0, Nat.zero_le _, rfl, rfl, Lib.hid trivial⟩
  case round =>
    obtain ⟨i, hi, rfl, rfl, HU⟩ := hrel
    obtain rfl | rfl | rfl | rfl : i = 0 ∨ i = 1 ∨ i = 2 ∨ i = 3 := by omega
    · have HS := Lib.hid (show IsX wr 1 (.slice (some ⟨G, 0, none⟩) 0 3) 0 (ints []) from HX.out.take (j := 0) (by decide))
      by_cases hn : near a
      · have hd : decide (near a) = true := decide_eq_true hn
        by_cases hm : a ∈ ([] : List Int)
        · have hd2 : decide (a ∈ ([] : List Int)) = true := decide_eq_true hm
          go_wp2_with fail
          refine (dnode _ _).mono ?_
          rintro e w2 ⟨rfl, rfl⟩
          rw [hd]
          go_wp2_with fail
          refine (dcontains _ [] _ _ HS.out (by simp)).mono ?_
          rintro e w2 ⟨rfl, rfl⟩
          rw [hd2]
          go_wp2
          go_ret
          exact ⟨by rw [decide_eq_false (no0 hm)]; rfl, HB.out⟩
        · have hd2 : decide (a ∈ ([] : List Int)) = false := decide_eq_false hm
          go_wp2_with fail
          refine (dnode _ _).mono ?_
          rintro e w2 ⟨rfl, rfl⟩
          rw [hd]
          go_wp2_with fail
          refine (dcontains _ [] _ _ HS.out (by simp)).mono ?_
          rintro e w2 ⟨rfl, rfl⟩
          rw [hd2]
          go_wp2
          go_roundw
          case rel => exact ⟨1, by omega, by trivial, by trivial, Lib.hid (up0 HU.out hn hm)⟩
          case measure => simp [intOf]
      · have hd : decide (near a) = false := decide_eq_false hn
        go_wp2_with fail
        refine (dnode _ _).mono ?_
        rintro e w2 ⟨rfl, rfl⟩
        rw [hd]
        go_wp2
        go_ret
        exact ⟨by rw [decide_eq_false (bad0 hn)]; rfl, HB.out⟩
    · have HS := Lib.hid (show IsX wr 1 (.slice (some ⟨G, 0, none⟩) 1 3) 1 (ints [a]) from HX.out.take (j := 1) (by decide))
      by_cases hn : near b
      · have hd : decide (near b) = true := decide_eq_true hn
        by_cases hm : b ∈ ([a] : List Int)
        · have hd2 : decide (b ∈ ([a] : List Int)) = true := decide_eq_true hm
          go_wp2_with fail
          refine (dnode _ _).mono ?_
          rintro e w2 ⟨rfl, rfl⟩
          rw [hd]
          go_wp2_with fail
          refine (dcontains _ [a] _ _ HS.out (by simp)).mono ?_
          rintro e w2 ⟨rfl, rfl⟩
          rw [hd2]
          go_wp2
          go_ret
          exact ⟨by rw [decide_eq_false (no1 hm)]; rfl, HB.out⟩
        · have hd2 : decide (b ∈ ([a] : List Int)) = false := decide_eq_false hm
          go_wp2_with fail
          refine (dnode _ _).mono ?_
          rintro e w2 ⟨rfl, rfl⟩
          rw [hd]
          go_wp2_with fail
          refine (dcontains _ [a] _ _ HS.out (by simp)).mono ?_
          rintro e w2 ⟨rfl, rfl⟩
          rw [hd2]
          go_wp2
          go_roundw
          case rel => exact ⟨2, by omega, by trivial, by trivial, Lib.hid (up1 HU.out hn hm)⟩
          case measure => simp [intOf]
      · have hd : decide (near b) = false := decide_eq_false hn
        go_wp2_with fail
        refine (dnode _ _).mono ?_
        rintro e w2 ⟨rfl, rfl⟩
        rw [hd]
        go_wp2
        go_ret
        exact ⟨by rw [decide_eq_false (bad1 hn)]; rfl, HB.out⟩
    · have HS := Lib.hid (show IsX wr 1 (.slice (some ⟨G, 0, none⟩) 2 3) 2 (ints [a, b]) from HX.out.take (j := 2) (by decide))
      by_cases hn : near c
      · have hd : decide (near c) = true := decide_eq_true hn
        by_cases hm : c ∈ ([a, b] : List Int)
        · have hd2 : decide (c ∈ ([a, b] : List Int)) = true := decide_eq_true hm
          go_wp2_with fail
          refine (dnode _ _).mono ?_
          rintro e w2 ⟨rfl, rfl⟩
          rw [hd]
          go_wp2_with fail
          refine (dcontains _ [a, b] _ _ HS.out (by simp)).mono ?_
          rintro e w2 ⟨rfl, rfl⟩
          rw [hd2]
          go_wp2
          go_ret
          exact ⟨by rw [decide_eq_false (no2 hm)]; rfl, HB.out⟩
        · have hd2 : decide (c ∈ ([a, b] : List Int)) = false := decide_eq_false hm
          go_wp2_with fail
          refine (dnode _ _).mono ?_
          rintro e w2 ⟨rfl, rfl⟩
          rw [hd]
          go_wp2_with fail
          refine (dcontains _ [a, b] _ _ HS.out (by simp)).mono ?_
          rintro e w2 ⟨rfl, rfl⟩
          rw [hd2]
          go_wp2
          go_roundw
          case rel => exact ⟨3, by omega, by trivial, by trivial, Lib.hid (up2 HU.out hn hm)⟩
          case measure => simp [intOf]
      · have hd : decide (near c) = false := decide_eq_false hn
        go_wp2_with fail
        refine (dnode _ _).mono ?_
        rintro e w2 ⟨rfl, rfl⟩
        rw [hd]
        go_wp2
        go_ret
        exact ⟨by rw [decide_eq_false (bad2 hn)]; rfl, HB.out⟩
    · go_wp2
      go_ret
      exact ⟨by rw [decide_eq_true (show near a ∧ near b ∧ near c ∧ a ≠ b ∧ a ≠ c ∧ b ≠ c from HU.out)]; rfl, HB.out⟩
end Go.Proofs.Ytlaighghagcjjaa
