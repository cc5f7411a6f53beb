/- An act's cells, where it lies among others. -/
import Derived.Test.YtnofabeajcdddaaDo
namespace Go.Proofs.Ytnofabeajcdddaa
open Go.RowKit Go.Cor

theorem Dk.more {w : World} {p k m : Nat} {S : Nat → Prop} {d : Dsk} (h : Dk w p S d k) (hm : k ≤ m) (hs : m ≤ 90000) : Dk w p S d m := ⟨h.is, Ok.more h.ok hm, hs, h.lt⟩
structure ActC (w : World) (b o : Nat) (a : Ac) : Prop where
  c0 : w.cell? ⟨b, o, none⟩ = some (.int .i64 a.kind)
  c1 : w.cell? ⟨b, o + 1, none⟩ = some (.string a.name)
  c2 : w.cell? ⟨b, o + 2, none⟩ = some (.string a.dst)
  c3 : w.cell? ⟨b, o + 3, none⟩ = some a.bv
  c4 : w.cell? ⟨b, o + 4, none⟩ = some (.int .i64 a.n)
  c5 : w.cell? ⟨b, o + 5, none⟩ = some (.int .i64 a.m)
  c6 : w.cell? ⟨b, o + 6, none⟩ = some (.int .i64 a.pn)
  c7 : w.cell? ⟨b, o + 7, none⟩ = some a.pv
theorem ActC.mono {w w' : World} {b o : Nat} {a : Ac} {B : Nat} (h : ActC w b o a) (hb : Below B w w') (hB : w.heap.size ≤ B) : ActC w' b o a := by
  have hl : b < B := Nat.lt_of_lt_of_le (cell_lt h.c0) hB
  have m : ∀ {o' : Nat} {u : Value}, w.cell? ⟨b, o', none⟩ = some u → w'.cell? ⟨b, o', none⟩ = some u := fun h => (hb.cell (p := ⟨b, _, none⟩) hl).trans h
  exact ⟨m h.c0, m h.c1, m h.c2, m h.c3, m h.c4, m h.c5, m h.c6, m h.c7⟩
theorem act_at {w : World} {v : Value} {l : List Ac} (hv : Acts w v l) {i : Nat} {a : Ac} (ha : l[i]? = some a) :
    ∃ b o, (∀ W : World, (Instr.indexAt 22 v (.int .i64 (i : Int))).run Try.prog W = .ok (.pointer (some ⟨b, o, none⟩)) W) ∧ ActC w b o a := by
  obtain ⟨b, o, hidx, _, hc⟩ := indexAt_X hv.is 22 _ Try.underlying22 Try.sizeActR i (List.getElem?_eq_some_iff.1 ha).1
  have m : ∀ j, j < 8 → w.cell? ⟨b, o + j, none⟩ = (acv a)[j]? := fun j hj => by rw [hc j hj, row_get acv_len ha j hj]
  exact ⟨b, o, hidx, m 0 (by decide), m 1 (by decide), m 2 (by decide), m 3 (by decide), m 4 (by decide), m 5 (by decide), m 6 (by decide), m 7 (by decide)⟩

end Go.Proofs.Ytnofabeajcdddaa
