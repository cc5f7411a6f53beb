/- What a row's opening of a slice of the document's commands (layer 19) hands over. -/
import Derived.Test.YtlaighghagcjjaaOpenX
import Derived.Test.YtlaighghagcjjaaDm
import Derived.Test.YtlaighghagcjjaaChecked
import Derived.OpenShut
set_option linter.unusedVariables false
set_option linter.unusedSimpArgs false
namespace Go.Proofs.Ytlaighghagcjjaa
open Go.RowKit Go.Cor Go.ChangeShapes Go.WideShapes Go.Joins Go.Deep
variable {H : Type} {enc : TypeId × Value → H} {W : World}

theorem Try.coInt19 : Try.prog.cellsOf 3 = 1 := by kernel_rfl
theorem Try.coArr19 : Try.prog.cellsOf 31 = 3 := by kernel_rfl
theorem Try.coCmd19 : Try.prog.cellsOf 33 = 8 := by kernel_rfl
theorem list8x {α : Type} {l : List α} (h : l.length = 8) : ∃ a b c d e f g i, l = [a, b, c, d, e, f, g, i] := list8 h
theorem list6x {α : Type} {l : List α} (h : l.length = 6) : ∃ a b c d e f, l = [a, b, c, d, e, f] := by
  match l, h with
  | [a, b, c, d, e, f], _ => exact ⟨a, b, c, d, e, f, rfl⟩
set_option maxRecDepth 100000 in
theorem cmd19_of_trod (fuel : Nat) (cs : List Value) (y : DataW H × List MemPlace) (hf : DataW.trod enc Try.prog W 0 (fun _ => true) true fuel 33 cs = some y) : ∃ a : Cm, cs = ccl a ∧ True := by
  obtain ⟨xs, n, _, _, hl, hlen, hfs⟩ := DataW.trod_struct Try.underlying33 hf
  obtain ⟨c0, c1, c2, c3, c4, c5, c6, c7, rfl⟩ := list8x (hl.trans Try.coCmd19)
  obtain ⟨y0, y1, y2, y3, y4, y5, rfl⟩ := list6x hlen
  have g0 := hfs 0 _ rfl
  have g1 := hfs 1 _ rfl
  have g2 := hfs 2 _ rfl
  have g3 := hfs 3 _ rfl
  have g4 := hfs 4 _ rfl
  have g5 := hfs 5 _ rfl
  simp only [Value.cells, Try.coInt19, Try.coArr19, List.drop_zero, List.drop_succ_cons, List.take_succ_cons, List.take_zero, List.getElem?_cons_zero, List.getElem?_cons_succ] at g0 g1 g2 g3 g4 g5
  obtain ⟨a0, e0, _, _⟩ := DataW.trod_int Try.underlying3 g0
  obtain ⟨a1, e1, _, _⟩ := DataW.trod_int Try.underlying3 g1
  obtain ⟨a2, e2, _, _⟩ := DataW.trod_int Try.underlying3 g2
  obtain ⟨a3, e3, _, _⟩ := DataW.trod_int Try.underlying3 g3
  obtain ⟨a4, e4, _, _⟩ := DataW.trod_int Try.underlying3 g4
  have g5' : DataW.trod enc Try.prog W 0 (fun _ => true) true n 31 [c5, c6, c7] = some y5 := by
    have : ([c0, c1, c2, c3, c4, c5, c6, c7].drop 5).take (Try.prog.cellsOf 31) = [c5, c6, c7] := by rw [Try.coArr19]; rfl
    rw [← this]
    exact hfs 5 _ rfl
  obtain ⟨zs, m, _, _, _, hlz, hfz⟩ := DataW.trod_array Try.underlying31 g5'
  obtain ⟨z0, z1, z2, rfl⟩ : ∃ a b c, zs = [a, b, c] := by
    match zs, hlz with
    | [a, b, c], _ => exact ⟨a, b, c, rfl⟩
  have k0 : DataW.trod enc Try.prog W 0 (fun _ => true) true m 3 [c5] = some z0 := by have h := hfz 0 (by decide); simp only [Try.coInt19, Nat.mul_one, List.drop_zero, List.drop_succ_cons, List.take_succ_cons, List.take_zero, List.getElem?_cons_zero, List.getElem?_cons_succ] at h; exact h
  have k1 : DataW.trod enc Try.prog W 0 (fun _ => true) true m 3 [c6] = some z1 := by have h := hfz 1 (by decide); simp only [Try.coInt19, Nat.mul_one, List.drop_zero, List.drop_succ_cons, List.take_succ_cons, List.take_zero, List.getElem?_cons_zero, List.getElem?_cons_succ] at h; exact h
  have k2 : DataW.trod enc Try.prog W 0 (fun _ => true) true m 3 [c7] = some z2 := by have h := hfz 2 (by decide); simp only [Try.coInt19, Nat.mul_one, List.drop_zero, List.drop_succ_cons, List.take_succ_cons, List.take_zero, List.getElem?_cons_zero, List.getElem?_cons_succ] at h; exact h
  obtain ⟨a5, e5, _, _⟩ := DataW.trod_int Try.underlying3 k0
  obtain ⟨a6, e6, _, _⟩ := DataW.trod_int Try.underlying3 k1
  obtain ⟨a7, e7, _, _⟩ := DataW.trod_int Try.underlying3 k2
  obtain rfl := (List.cons.inj e0).1
  obtain rfl := (List.cons.inj e1).1
  obtain rfl := (List.cons.inj e2).1
  obtain rfl := (List.cons.inj e3).1
  obtain rfl := (List.cons.inj e4).1
  obtain rfl := (List.cons.inj e5).1
  obtain rfl := (List.cons.inj e6).1
  obtain rfl := (List.cons.inj e7).1
  exact ⟨⟨a0, a1, a2, a3, a4, a5, a6, a7⟩, rfl, trivial⟩
theorem cmds19_of_trod {fuel : Nat} {c : Value} {y : DataW H × List MemPlace} (h : DataW.trod enc Try.prog W 0 (fun _ => true) true fuel 26 [c] = some y) : ∃ l : List Cm, IsX W 8 c l.length (row ccl l) ∧ ∀ x ∈ l, True :=
  rows_of_trod ccl (fun _ => True) Try.underlying26 Try.coCmd19 (by decide) ccl_len cmd19_of_trod h
end Go.Proofs.Ytlaighghagcjjaa
