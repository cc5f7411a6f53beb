/- What a row's opening of a slice of bools, of bytes, of layer 18's acts hands over. -/
import Derived.Test.YtoebjfkmhdnkfaaOpenX
import Derived.Test.YtoebjfkmhdnkfaaChecked
set_option linter.unusedVariables false
set_option linter.unusedSimpArgs false
namespace Go.Proofs.Ytoebjfkmhdnkfaa
open Go.RowKit Go.Cor Go.ChangeShapes Go.WideShapes Go.Joins Go.Deep
variable {H : Type} {enc : TypeId × Value → H} {W : World}

/-- A bool, a byte, an act, as cells. -/
def bcl (b : Bool) : List Value := [.bool b]
def ycl (y : Nat) : List Value := [.int .u8 (y : Int)]
structure A18 where
  kind : Int
  who : Int
  ep : Int
  now : Int
def acl18 (a : A18) : List Value := [.int .i64 a.kind, .int .i64 a.who, .int .i64 a.ep, .int .i64 a.now]
theorem Try.coBool18 : Try.prog.cellsOf 4 = 1 := by kernel_rfl
theorem Try.coU818 : Try.prog.cellsOf 5 = 1 := by kernel_rfl
theorem Try.coInt18 : Try.prog.cellsOf 3 = 1 := by kernel_rfl
theorem Try.coAct18 : Try.prog.cellsOf 30 = 4 := by kernel_rfl
theorem list4x {α : Type} {l : List α} (h : l.length = 4) : ∃ a b c d, l = [a, b, c, d] := by
  match l, h with
  | [a, b, c, d], _ => exact ⟨a, b, c, d, rfl⟩
theorem bools_of_trod {fuel : Nat} {c : Value} {y : DataW H × List MemPlace} (h : DataW.trod enc Try.prog W 0 (fun _ => true) true fuel 41 [c] = some y) : ∃ l : List Bool, IsX W 1 c l.length (row bcl l) ∧ ∀ x ∈ l, True :=
  rows_of_trod bcl (fun _ => True) Try.underlying41 Try.coBool18 (by decide) (fun _ => rfl) (fun fuel cs y h => by
    obtain ⟨b, rfl, _⟩ := DataW.trod_bool Try.underlying4 h
    exact ⟨b, rfl, trivial⟩) h
theorem bytes_of_trod {fuel : Nat} {c : Value} {y : DataW H × List MemPlace} (h : DataW.trod enc Try.prog W 0 (fun _ => true) true fuel 39 [c] = some y) : ∃ l : List Nat, IsX W 1 c l.length (row ycl l) ∧ ∀ x ∈ l, x < 256 :=
  rows_of_trod ycl (fun x => x < 256) Try.underlying39 Try.coU818 (by decide) (fun _ => rfl) (fun fuel cs y h => by
    obtain ⟨a, rfl, _, hw⟩ := DataW.trod_int Try.underlying5 h
    have b := wf_u8 hw
    obtain ⟨i, rfl⟩ := Int.eq_ofNat_of_zero_le b.1
    exact ⟨i, rfl, by omega⟩) h
theorem act18_of_trod (fuel : Nat) (cs : List Value) (y : DataW H × List MemPlace) (hf : DataW.trod enc Try.prog W 0 (fun _ => true) true fuel 30 cs = some y) : ∃ a : A18, cs = acl18 a ∧ True := by
  obtain ⟨xs, n, _, _, hl, hlen, hfs⟩ := DataW.trod_struct Try.underlying30 hf
  obtain ⟨c0, c1, c2, c3, rfl⟩ := list4x (hl.trans Try.coAct18)
  obtain ⟨y0, y1, y2, y3, rfl⟩ := list4x hlen
  have g0 := hfs 0 _ rfl
  have g1 := hfs 1 _ rfl
  have g2 := hfs 2 _ rfl
  have g3 := hfs 3 _ rfl
  simp only [Value.cells, Try.coInt18, List.drop_zero, List.drop_succ_cons, List.take_succ_cons, List.take_zero, List.getElem?_cons_zero, List.getElem?_cons_succ] at g0 g1 g2 g3
  obtain ⟨a0, e0, _, _⟩ := DataW.trod_int Try.underlying3 g0
  obtain ⟨a1, e1, _, _⟩ := DataW.trod_int Try.underlying3 g1
  obtain ⟨a2, e2, _, _⟩ := DataW.trod_int Try.underlying3 g2
  obtain ⟨a3, e3, _, _⟩ := DataW.trod_int Try.underlying3 g3
  obtain rfl := (List.cons.inj e0).1
  obtain rfl := (List.cons.inj e1).1
  obtain rfl := (List.cons.inj e2).1
  obtain rfl := (List.cons.inj e3).1
  exact ⟨⟨a0, a1, a2, a3⟩, rfl, trivial⟩
theorem acts18_of_trod {fuel : Nat} {c : Value} {y : DataW H × List MemPlace} (h : DataW.trod enc Try.prog W 0 (fun _ => true) true fuel 22 [c] = some y) : ∃ l : List A18, IsX W 4 c l.length (row acl18 l) ∧ ∀ x ∈ l, True :=
  rows_of_trod acl18 (fun _ => True) Try.underlying22 Try.coAct18 (by decide) (fun _ => rfl) act18_of_trod h
end Go.Proofs.Ytoebjfkmhdnkfaa
