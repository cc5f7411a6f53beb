/- Package dirs: On. -/
import Derived.Test.YtlaighghagcjjaaDo4
namespace Go.Proofs.Ytlaighghagcjjaa
open Go.RowKit Go.Cor
set_option linter.unusedVariables false
set_option linter.unusedSimpArgs false

theorem Try.infoInt19 : (Try.prog.info? 3).map (fun i => (i.zero, i.size, i.bytes)) = some (some (.int .i64 0), 1, 8) := by kernel_rfl
theorem onL_step {L : List En} {i : Nat} {e : En} (h : L[i]? = some e) (n : Int) : onL (L.take (i + 1)) n = onL (L.take i) n ++ (if hasE e n then [e.vol] else []) := by
  unfold onL
  rw [List.take_add_one, h, List.filter_append, List.map_append]
  congr 1
  by_cases hh : hasE e n
  · simp [hh]
  · simp [hh]
theorem onL_le (L : List En) (n : Int) : (onL L n).length ≤ L.length := by
  unfold onL
  rw [List.length_map]
  exact List.length_filter_le _ _
theorem icl_one (l : List Nat) : ∀ u ∈ row icl l, u.oneCell' = true := row_mem fun x _ v hv => by
  obtain rfl := List.mem_singleton.1 hv
  rfl
/-- An entry in a box of its own. -/
theorem et_new (w : World) (e : En) (T : TypeId) : Et (w.alloc (.cells #[.int .i64 (e.vol : Int), .int .i64 (e.ep : Int), .int .i64 (e.a : Int), .int .i64 (e.b : Int), .int .i64 (e.c : Int), .bool e.sl] T)) w.heap.size 0 e := by
  have h := Blk.new w #[.int .i64 (e.vol : Int), .int .i64 (e.ep : Int), .int .i64 (e.a : Int), .int .i64 (e.b : Int), .int .i64 (e.c : Int), .bool e.sl] T
  exact ⟨h.cell 0 rfl, h.cell 1 rfl, h.cell 2 rfl, h.cell 3 rfl, h.cell 4 rfl, h.cell 5 rfl, h.free, h.lt⟩
/-- An entry of a slice of entries. -/
theorem ent_at {w : World} {v : Value} {L : List En} {i : Nat} {e : En} (hv : IsX w 6 v L.length (row ecl L)) (he : L[i]? = some e) :
    ∃ b o, (∀ W, (Instr.indexAt 74 v (.int .i64 (i : Int))).run Try.prog W = .ok (.pointer (some ⟨b, o, none⟩)) W) ∧ w.cell? ⟨b, o, none⟩ = some (.int .i64 (e.vol : Int)) ∧ w.cell? ⟨b, o + 1, none⟩ = some (.int .i64 (e.ep : Int)) ∧ w.cell? ⟨b, o + 2, none⟩ = some (.int .i64 (e.a : Int)) ∧ w.cell? ⟨b, o + 3, none⟩ = some (.int .i64 (e.b : Int)) ∧ w.cell? ⟨b, o + 4, none⟩ = some (.int .i64 (e.c : Int)) ∧ w.cell? ⟨b, o + 5, none⟩ = some (.bool e.sl) := by
  obtain ⟨b, o, hx, _, hc⟩ := indexAt_X (P := Try.prog) hv 74 77 Try.underlying74 Try.sizeEntD i (List.getElem?_eq_some_iff.1 he).1
  have hg : ∀ j, j < 6 → w.cell? ⟨b, o + j, none⟩ = (ecl e)[j]? := fun j hj => by rw [hc j hj, row_get ecl_len he j hj]
  exact ⟨b, o, hx, hg 0 (by decide), hg 1 (by decide), hg 2 (by decide), hg 3 (by decide), hg 4 (by decide), hg 5 (by decide)⟩
end Go.Proofs.Ytlaighghagcjjaa
