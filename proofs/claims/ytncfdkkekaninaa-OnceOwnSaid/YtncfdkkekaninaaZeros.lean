/- Appending noughts ('append(b, make([]byte, n)...)') to a row of the call's own: of no program. -/
import Derived.Test.YtncfdkkekaninaaNdl
set_option linter.unusedVariables false
set_option linter.unusedSimpArgs false
namespace Go.Cor
open Go.RowKit

theorem zeroCells_u8 (m : Nat) : Builtin.zeroCells #[.int .u8 0] m = (bvs (zerosN m)).toArray := by
  apply Array.ext
  · simp [Builtin.zeroCells, zerosN]
  · intro i h1 h2
    simp [Builtin.zeroCells, bvs, zerosN, Nat.mod_one]

theorem run_append_zeros {P : Program} (w : World) (base : Nat) (T N U ty : TypeId) (i : TypeInfo) (ht : P.underlying T = some (.slice U)) (hN : P.underlying N = some (.int .i64)) (hi : P.info? U = some i) (hz : i.zero = some (.int .u8 0)) (hsize : i.size = 1) (hby : i.bytes = 1)
    (v : Value) (xs : List UInt8) (n : Nat) (hn : n = xs.length) (hown : w.ownsRow base U 1 v n (bvs xs)) (m : Nat) (hlen : xs.length + m ≤ 1099511627776) (hbase : base ≤ w.heap.size) :
    ∃ v' w', (Builtin.append_ #[T, N] ty #[v, .int .i64 (m : Int)]).run P w = .ok v' w' ∧ w'.ownsRow base U 1 v' (xs ++ zerosN m).length (bvs (xs ++ zerosN m)) ∧ w.grownBy w' v.ownBlock := by
  subst hn
  have has : (asInt (.int .i64 (m : Int))).run P w = .ok (m : Int) w := rfl
  have hw0 : IntKind.i64.wrap 0 = 0 := by decide
  have has0 : (asInt (.int .i64 0)).run P w = .ok 0 w := rfl
  have hwrap : IntKind.i64.wrap (m : Int) = (m : Int) := IntWalk.i64_in _ (by omega)
  have hneg : ¬ ((m : Int) < 0) := by omega
  have hbig : ¬ (281474976710656 < (m : Int)) := by omega
  have hz1 : (Value.int IntKind.u8 0).cells = #[.int .u8 0] := rfl
  have hl2 : (bvs (zerosN m)).length = m := by simp [zerosN]
  have hone := bvs_one (zerosN m)
  have hlen2 : (bvs (xs ++ zerosN m)).length = (xs ++ zerosN m).length * 1 := by simp
  have hll : (xs ++ zerosN m).length = xs.length + m := by simp [zerosN]
  by_cases hm : m = 0
  · subst hm
    have e0 : zerosN 0 = [] := rfl
    rw [e0, List.append_nil]
    refine ⟨v, w, ?_, hown, ⟨rfl, rfl, rfl, Nat.le_refl _, fun _ _ _ => rfl⟩⟩
    rcases hown.2 with ⟨rfl, h0⟩ | ⟨g, cap, cur, rfl, hbg, hg, hnc, hcm, hcs, htake⟩
    · simp [Builtin.append_, run_underlying ht, run_underlying hN, sizeOf, typeInfo, hi, has0, hw0]
    · simp [Builtin.append_, run_underlying ht, run_underlying hN, sizeOf, typeInfo, hi, hsize, hnc, storeCells, has0, hw0]
  · have hm0 : m * 1 ≠ 0 := by omega
    have grown : ∀ (old : Nat), ∀ (row : Option Nat),
        (w.drew.alloc (.cells ((bvs xs).toArray ++ (bvs (zerosN m)).toArray ++ Builtin.zeroCells #[.int .u8 0] (grownCap w (xs.length + m) old U - (xs.length + m))) U)).ownsRow base U 1
          (.slice (some ⟨w.heap.size, 0, none⟩) (xs.length + m) (grownCap w (xs.length + m) old U)) (xs.length + m) (bvs (xs ++ zerosN m)) ∧
        w.grownBy (w.drew.alloc (.cells ((bvs xs).toArray ++ (bvs (zerosN m)).toArray ++ Builtin.zeroCells #[.int .u8 0] (grownCap w (xs.length + m) old U - (xs.length + m))) U)) row := by
      intro old row
      have hge := grownCap_ge w (xs.length + m) old U
      have hcm : grownCap w (xs.length + m) old U ≤ maxLen := grownCap_le_maxLen w (xs.length + m) old U (by unfold maxLen; omega)
      refine ⟨⟨by rw [hlen2, hll], .inr ⟨w.heap.size, _, _, rfl, hbase, heap_alloc_new w.drew _, hge, hcm, ?_, ?_⟩⟩, ⟨rfl, rfl, rfl, by simp, fun k hk _ => heap_alloc_old w.drew _ hk⟩⟩
      · simp only [Array.size_append, List.size_toArray, size_zeroCells, length_bvs, hl2]
        simp
        omega
      · simp only [Array.toList_append, List.append_assoc]
        rw [← List.append_assoc, ← bvs_append]
        exact List.take_left' (by rw [length_bvs, hll, Nat.mul_one])
    rw [hll]
    rcases hown.2 with ⟨rfl, h0⟩ | ⟨g, cap, cur, rfl, hbg, hg, hnc, hcm, hcs, htake⟩
    · obtain rfl : xs = [] := List.eq_nil_of_length_eq_zero h0
      have h63 : ¬ (9223372036854775807 < (m : Int)) := by omega
      have h48 : ¬ (281474976710656 < Builtin.nextslicecap m 0) := by rw [nextslicecap_zero (by omega)]; omega
      have hgr := grown 0 (Value.ownBlock (.slice none 0 0))
      simp only [List.length_nil, Nat.zero_add] at hgr ⊢
      refine ⟨_, _, ?_, hgr.1, hgr.2⟩
      simp [Builtin.append_, run_underlying ht, run_underlying hN, sizeOf, typeInfo, zeroValue, hi, hz, hsize, hby, has, hwrap, hneg, hbig, hm, h63, h48, Question.forced, run_firstCells_none, newRow, grownCap, hz1, zeroCells_u8, bvs_nil]
    · by_cases hroom : xs.length + m ≤ cap
      · have hst := run_storeCells_at P g (xs.length * 1) U (bvs (zerosN m)) 0 cur w hg (by rw [hl2, hcs]; omega) hone
        simp only [Nat.add_zero] at hst
        refine ⟨.slice (some ⟨g, 0, none⟩) (xs.length + m) cap, w.setRow g (cur.toList.take (xs.length * 1) ++ bvs (zerosN m) ++ cur.toList.drop (xs.length * 1 + (bvs (zerosN m)).length)).toArray, ?_, ?_, ?_⟩
        · simp only [Nat.mul_one] at hst ⊢
          simp [Builtin.append_, run_underlying ht, run_underlying hN, sizeOf, typeInfo, zeroValue, hi, hz, hsize, hby, has, hwrap, hneg, hbig, hm, hroom, Addr.add_lit, hz1, zeroCells_u8]
          rw [hst]
          simp
        · refine ⟨by rw [hlen2, hll], .inr ⟨g, cap, _, rfl, hbg, setRow_heap w g cur _ U _ hg, hroom, hcm, ?_, ?_⟩⟩
          · simp only [List.size_toArray, List.length_append, List.length_take, List.length_drop, Array.length_toList, hl2]
            omega
          · rw [htake, bvs_append]
            exact List.take_left' (by rw [List.length_append, length_bvs, hl2, Nat.mul_one])
        · exact ⟨rfl, rfl, rfl, by simp, fun k _ hk => setRow_other w g k _ (fun e => hk (by simp [Value.ownBlock, e]))⟩
      · have holds : ∀ j u, (bvs xs)[j]? = some u → w.cell? ((⟨g, 0, none⟩ : Addr).add j) = some u := hown.cells (g := g) rfl
        have h63 : ¬ (9223372036854775807 < ((xs.length : Int) + (m : Int))) := by omega
        have h48 : ¬ (281474976710656 < Builtin.nextslicecap (xs.length + m) cap) := by
          have h := growslice_fits (need := xs.length + m) (old := cap) (bytes := 1) (by omega) (by omega)
          omega
        have hfo := run_firstCells_some (P := P) w.drew 1 xs.length ⟨g, 0, none⟩ xs.length cap (bvs xs) (by simp) (by simpa using holds)
        have hgr := grown cap (Value.ownBlock (.slice (some ⟨g, 0, none⟩) xs.length cap))
        refine ⟨_, _, ?_, hgr.1, hgr.2⟩
        simp [Builtin.append_, run_underlying ht, run_underlying hN, sizeOf, typeInfo, zeroValue, hi, hz, hsize, hby, has, hwrap, hneg, hbig, hm, hroom, h63, h48, Question.forced, hfo, newRow, grownCap, hz1, zeroCells_u8]

theorem wpList_append_zeros {P : Program} {w : World} {ops : Array Oper} {rest : List Oper} {o : Oper} {a : Act} {Q : Exit → Act → World → Prop} (hw : Region.wanted o (yielded ops a.tmps) = true) (s x : Operand) (T N : TypeId)
    (ho : o.op = .call { callee := .builtin .append, args := #[s, x], argTypes := #[T, N] })
    (base : Nat) (U : TypeId) (i : TypeInfo) (ht : P.underlying T = some (.slice U)) (hN : P.underlying N = some (.int .i64)) (hi : P.info? U = some i) (hz : i.zero = some (.int .u8 0)) (hsize : i.size = 1) (hby : i.bytes = 1)
    (v : Value) (xs : List UInt8) (n : Nat) (hs : a.eval s = v) (hown : w.ownsRow base U 1 v n (bvs xs)) (hn : n = xs.length) (m : Nat) (hx : a.eval x = .int .i64 (m : Int)) (hlen : xs.length + m ≤ 1099511627776) (hbase : base ≤ w.heap.size)
    (h : ∀ v' w', w'.ownsRow base U 1 v' (xs ++ zerosN m).length (bvs (xs ++ zerosN m)) → Below base w w' → wpList P ops Q rest (a.put o.dst v') w') : wpList P ops Q (o :: rest) a w := by
  refine BigFrame.wpList_want hw fun K hK => ?_
  obtain ⟨v', w', hr, h2, h3⟩ := run_append_zeros (P := P) w base T N U o.type i ht hN hi hz hsize hby v xs n hn hown m hlen hbase
  unfold Oper.wp execOp
  simp only [ho, resolve, invoke, builtin, Sem.run_bind, Sem.run_pure, Result.andThen_ok, List.map_toArray, List.map_cons, List.map_nil, hs, hx, hr]
  exact hK _ _ (h v' w' h2 ((Below.refl _ _).grown h3 hbase fun j hj => (hown.lt j hj).1))

end Go.Cor
