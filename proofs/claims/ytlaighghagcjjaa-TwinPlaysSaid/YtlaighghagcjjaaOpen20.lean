/- What a row's opening of a slice of the document's acts (layer 20) hands over. -/
import Derived.Test.YtlaighghagcjjaaOpen19
import Derived.Test.YtlaighghagcjjaaTnF
set_option linter.unusedVariables false
set_option linter.unusedSimpArgs false
namespace Go.Proofs.Ytlaighghagcjjaa
open Go.RowKit Go.Cor Go.ChangeShapes Go.WideShapes Go.Joins Go.Deep
variable {H : Type} {enc : TypeId × Value → H} {W : World}

theorem Try.coAct20 : Try.prog.cellsOf 35 = 11 := by kernel_rfl
theorem list11x {α : Type} {l : List α} (h : l.length = 11) : ∃ a b c d e f g i j k m, l = [a, b, c, d, e, f, g, i, j, k, m] := by
  match l, h with
  | [a, b, c, d, e, f, g, i, j, k, m], _ => exact ⟨a, b, c, d, e, f, g, i, j, k, m, rfl⟩
theorem list4x {α : Type} {l : List α} (h : l.length = 4) : ∃ a b c d, l = [a, b, c, d] := by
  match l, h with
  | [a, b, c, d], _ => exact ⟨a, b, c, d, rfl⟩
set_option maxRecDepth 100000 in
theorem act20_of_trod (fuel : Nat) (cs : List Value) (y : DataW H × List MemPlace) (hf : DataW.trod enc Try.prog W 0 (fun _ => true) true fuel 35 cs = some y) : ∃ a : Ac20, cs = acl a ∧ True := by
  obtain ⟨xs, n, _, _, hl, hlen, hfs⟩ := DataW.trod_struct Try.underlying35 hf
  obtain ⟨c0, c1, c2, c3, c4, c5, c6, c7, c8, c9, c10, rfl⟩ := list11x (hl.trans Try.coAct20)
  obtain ⟨y0, y1, y2, y3, rfl⟩ := list4x hlen
  have g0 := hfs 0 _ rfl
  have g1 := hfs 1 _ rfl
  have g2 := hfs 2 _ rfl
  simp only [Value.cells, Try.coInt19, List.drop_zero, List.drop_succ_cons, List.take_succ_cons, List.take_zero, List.getElem?_cons_zero, List.getElem?_cons_succ] at g0 g1 g2
  obtain ⟨a0, e0, _, _⟩ := DataW.trod_int Try.underlying3 g0
  obtain ⟨a1, e1, _, _⟩ := DataW.trod_int Try.underlying3 g1
  obtain ⟨a2, e2, _, _⟩ := DataW.trod_int Try.underlying3 g2
  have g3 : DataW.trod enc Try.prog W 0 (fun _ => true) true n 33 [c3, c4, c5, c6, c7, c8, c9, c10] = some y3 := by
    have : ([c0, c1, c2, c3, c4, c5, c6, c7, c8, c9, c10].drop 3).take (Try.prog.cellsOf 33) = [c3, c4, c5, c6, c7, c8, c9, c10] := by rw [Try.coCmd19]; rfl
    rw [← this]
    exact hfs 3 _ rfl
  obtain ⟨c, hc, _⟩ := cmd19_of_trod n _ _ g3
  obtain rfl := (List.cons.inj e0).1
  obtain rfl := (List.cons.inj e1).1
  obtain rfl := (List.cons.inj e2).1
  exact ⟨⟨a0, a1, a2, c⟩, by show _ :: _ :: _ :: [c3, c4, c5, c6, c7, c8, c9, c10] = _; rw [hc]; rfl, trivial⟩
theorem acts20_of_trod {fuel : Nat} {c : Value} {y : DataW H × List MemPlace} (h : DataW.trod enc Try.prog W 0 (fun _ => true) true fuel 22 [c] = some y) : ∃ l : List Ac20, IsX W 11 c l.length (row acl l) ∧ ∀ x ∈ l, True :=
  rows_of_trod acl (fun _ => True) Try.underlying22 Try.coAct20 (by decide) acl_len act20_of_trod h
end Go.Proofs.Ytlaighghagcjjaa
