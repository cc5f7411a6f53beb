/- What a row's opening of the document's messages hands over. -/
import Derived.Test.YtncfdkkekaninaaRef14
import Derived.Test.YtncfdkkekaninaaOpen03
set_option linter.unusedVariables false
set_option linter.unusedSimpArgs false
namespace Go.Proofs.Ytncfdkkekaninaa
open Go.RowKit Go.Cor Go.ChangeShapes Go.WideShapes Go.Joins Go.Deep
variable {H : Type} {enc : TypeId × Value → H} {W : World}

theorem list9 {α : Type} {l : List α} (h : l.length = 9) : ∃ a b c d e f g i j, l = [a, b, c, d, e, f, g, i, j] := by
  match l, h with
  | [a, b, c, d, e, f, g, i, j], _ => exact ⟨a, b, c, d, e, f, g, i, j, rfl⟩
theorem list12 {α : Type} {l : List α} (h : l.length = 12) : ∃ a b c d e f g i j k m n, l = [a, b, c, d, e, f, g, i, j, k, m, n] := by
  match l, h with
  | [a, b, c, d, e, f, g, i, j, k, m, n], _ => exact ⟨a, b, c, d, e, f, g, i, j, k, m, n, rfl⟩
theorem Try.coInt14 : Try.prog.cellsOf 3 = 1 := by kernel_rfl
theorem Try.coU6414 : Try.prog.cellsOf 23 = 1 := by kernel_rfl
theorem Try.coBool14 : Try.prog.cellsOf 4 = 1 := by kernel_rfl
theorem Try.coN14 : Try.prog.cellsOf 34 = 4 := by kernel_rfl
theorem Try.coM14 : Try.prog.cellsOf 36 = 12 := by kernel_rfl
set_option maxRecDepth 10000 in
theorem open_msg {r : Reach} {b0 : Nat} {v : Value} {d : DataW H} {p : List MemPlace} (hv : Value.okWide Try.prog W r b0 36 v) (h : DataW.Trod enc Try.prog W 0 (fun _ => true) true 36 v d p) :
    ∃ (m : Msg) (vd : Value), v = mval m vd ∧ m.n.fits ∧ m.id < 18446744073709551616 ∧ IsB W vd m.n.data := by
  obtain ⟨⟨cs⟩, rfl, hsz⟩ := okWide_struct Try.underlying36 hv
  obtain ⟨c0, c1, c2, c3, c4, c5, c6, c7, c8, c9, c10, c11, rfl⟩ := list12 (hsz.trans Try.coM14)
  obtain ⟨fuel, hf⟩ := h
  obtain ⟨xs, n, _, _, hl, hlen, hfs⟩ := DataW.trod_struct Try.underlying36 hf
  obtain ⟨y0, y1, y2, y3, y4, y5, y6, y7, y8, rfl⟩ := list9 hlen
  have g0 := hfs 0 _ rfl
  have g1 := hfs 1 _ rfl
  have g2 := hfs 2 _ rfl
  have g3 := hfs 3 _ rfl
  have g4 := hfs 4 _ rfl
  have g5 := hfs 5 _ rfl
  have g6 := hfs 6 _ rfl
  have g7 := hfs 7 _ rfl
  have g8 := hfs 8 _ rfl
  simp only [Value.cells, Try.coInt14, Try.coU6414, Try.coBool14, Try.coN14, List.drop_zero, List.drop_succ_cons, List.take_succ_cons, List.take_zero, List.getElem?_cons_zero, List.getElem?_cons_succ] at g0 g1 g2 g3 g4 g5 g6 g7 g8
  obtain ⟨a0, e0, _, _⟩ := DataW.trod_int Try.underlying3 g0
  obtain ⟨a1, e1, _, _⟩ := DataW.trod_int Try.underlying3 g1
  obtain ⟨a2, e2, _, _⟩ := DataW.trod_int Try.underlying3 g2
  obtain ⟨a3, e3, _, _⟩ := DataW.trod_int Try.underlying3 g3
  obtain ⟨a4, e4, _, _⟩ := DataW.trod_int Try.underlying3 g4
  obtain ⟨a5, e5, _, w5⟩ := DataW.trod_int Try.underlying23 g5
  obtain ⟨a6, e6, _, _⟩ := DataW.trod_int Try.underlying3 g6
  obtain ⟨a7, e7, _⟩ := DataW.trod_bool Try.underlying4 g7
  obtain ⟨z0, z1, z2, z3, m', k0, k1, k2, k3⟩ := trod4_at Try.underlying34 (by kernel_rfl) g8
  obtain ⟨nd, rfl, rfl, rfl, hnf, hB⟩ := ndl_of_trods k0 k1 k2 k3
  obtain rfl := (List.cons.inj e0).1
  obtain rfl := (List.cons.inj e1).1
  obtain rfl := (List.cons.inj e2).1
  obtain rfl := (List.cons.inj e3).1
  obtain rfl := (List.cons.inj e4).1
  obtain rfl := (List.cons.inj e5).1
  obtain rfl := (List.cons.inj e6).1
  obtain rfl := (List.cons.inj e7).1
  have b5 := wf_u64 w5
  obtain ⟨i, rfl⟩ := Int.eq_ofNat_of_zero_le b5.1
  exact ⟨⟨a0, a1, a2, a3, a4, i, a6, a7, nd⟩, c11, rfl, hnf, by show i < 18446744073709551616; omega, hB⟩

end Go.Proofs.Ytncfdkkekaninaa
