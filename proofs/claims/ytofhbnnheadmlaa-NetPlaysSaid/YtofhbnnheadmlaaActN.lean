/- The document's acts on a net (layer 15), as plain values and as cells. -/
import Derived.Test.YtofhbnnheadmlaaRn
import Derived.Test.YtofhbnnheadmlaaNdF
set_option linter.unusedVariables false
set_option linter.unusedSimpArgs false
namespace Go.Proofs.Ytofhbnnheadmlaa
open Go.RowKit Go.Cor

structure Ac15 where
  kd : Int
  i : Int
  k : Int
  m : Msg
abbrev A15 := Ac15 × Value
def acl15 (x : A15) : List Value := [.int .i64 x.1.kd, .int .i64 x.1.i, .int .i64 x.1.k, .int .i64 x.1.m.fr, .int .i64 x.1.m.to, .int .i64 x.1.m.kd, .int .i64 x.1.m.vo, .int .i64 x.1.m.li, .int .u64 (x.1.m.id : Int), .int .i64 x.1.m.co, .bool x.1.m.has, .int .u64 (x.1.m.n.key : Int), .int .u32 (x.1.m.n.cookie : Int), .bool x.1.m.n.gone, x.2]
theorem acl15_len (x : A15) : (acl15 x).length = 15 := rfl
/-- What an act that came in is like. -/
def Good15 (w : World) (x : A15) : Prop := IsB w x.2 x.1.m.n.data ∧ x.1.m.n.fits ∧ x.1.m.id < 18446744073709551616 ∧ wfI x.1.kd ∧ wfI x.1.i ∧ wfI x.1.k
def IsA15 (w : World) (v : Value) (l : List A15) : Prop := IsX w 15 v l.length (row acl15 l) ∧ ∀ x ∈ l, Good15 w x
theorem IsA15.mono {w w' : World} {v : Value} {l : List A15} {B : Nat} (h : IsA15 w v l) (hb : Below B w w') (hB : w.heap.size ≤ B) : IsA15 w' v l := ⟨h.1.mono hb hB, fun x hx => ⟨(h.2 x hx).1.mono hb hB, (h.2 x hx).2⟩⟩
theorem Try.sizeAct15 : (Try.prog.info? 32).map (·.size) = some 15 := by kernel_rfl
theorem act15_at {w : World} {v : Value} {l : List A15} (hv : IsA15 w v l) {i : Nat} {x : A15} (hx : l[i]? = some x) :
    ∃ b o, (∀ W, (Instr.indexAt 22 v (.int .i64 (i : Int))).run Try.prog W = .ok (.pointer (some ⟨b, o, none⟩)) W) ∧ ∀ j, j < 15 → w.cell? ⟨b, o + j, none⟩ = (acl15 x)[j]? := by
  have hi : i < l.length := (List.getElem?_eq_some_iff.1 hx).1
  obtain ⟨b, o, h1, h2, h3⟩ := indexAt_X hv.1 22 32 Try.underlying22 Try.sizeAct15 i hi
  exact ⟨b, o, h1, fun j hj => (h3 j hj).trans (row_get acl15_len hx j hj)⟩

end Go.Proofs.Ytofhbnnheadmlaa
