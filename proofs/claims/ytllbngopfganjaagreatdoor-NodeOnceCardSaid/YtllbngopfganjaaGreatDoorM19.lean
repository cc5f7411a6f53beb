/- Wf, Open03, Open14, OpenX, Open17. -/
import Derived.Test.YtllbngopfganjaaGreatDoorM1
import Derived.Test.YtllbngopfganjaaGreatDoorM2
import Derived.Test.YtllbngopfganjaaGreatDoorM3
import Derived.Deep.CutRange
import Derived.Lib.SmallJoins
import Derived.ProofKit
import Derived.Test.YtllbngopfganjaaGreatDoorM17
set_option linter.unusedVariables false
set_option linter.unusedSimpArgs false

section
namespace Go.Cor
open Go.RowKit

theorem wf_u32 {a : Int} (h : (Lit.int .u32 a).wf = true) : 0 ≤ a ∧ a < 4294967296 := by
  have : 0 ≤ a ∧ a ≤ 4294967295 := by simpa [Lit.wf, IntKind.min, IntKind.max, IntKind.bits, IntKind.signed] using h
  omega
theorem wf_u64 {a : Int} (h : (Lit.int .u64 a).wf = true) : 0 ≤ a ∧ a < 18446744073709551616 := by
  have : 0 ≤ a ∧ a ≤ 18446744073709551615 := by simpa [Lit.wf, IntKind.min, IntKind.max, IntKind.bits, IntKind.signed] using h
  omega
theorem wf_i64 {a : Int} (h : (Lit.int .i64 a).wf = true) : -9223372036854775808 ≤ a ∧ a ≤ 9223372036854775807 := by
  have : -9223372036854775808 ≤ a ∧ a ≤ 9223372036854775807 := by simpa [Lit.wf, IntKind.min, IntKind.max, IntKind.bits, IntKind.signed] using h
  omega
theorem wf_u8 {a : Int} (h : (Lit.int .u8 a).wf = true) : 0 ≤ a ∧ a < 256 := by
  have : 0 ≤ a ∧ a ≤ 255 := by simpa [Lit.wf, IntKind.min, IntKind.max, IntKind.bits, IntKind.signed] using h
  omega

theorem isB_of_row {w : World} {a : Option Addr} {len cap : Nat} {zs : List Int}
    (h : (a = none ∧ len = 0 ∧ cap = 0 ∧ zs = []) ∨
      ∃ x, a = some x ∧ len ≤ cap ∧ cap ≤ maxLen ∧ zs.length = cap ∧ (∀ i, i < zs.length → w.cell? (x.add i) = some (.int .u8 (zs.getD i 0))) ∧ ∀ n ∈ zs, (Lit.int .u8 n).wf = true) :
    ∃ l : List UInt8, l.length = len ∧ IsB w (.slice a len cap) l := by
  rcases h with ⟨rfl, rfl, rfl, rfl⟩ | ⟨x, rfl, hl, hm, hz, hcell, hwz⟩
  · exact ⟨[], rfl, IsB.nil w⟩
  · have hlen : ((zs.take len).map fun z => UInt8.ofNat z.toNat).length = len := by simp; omega
    refine ⟨(zs.take len).map fun z => UInt8.ofNat z.toNat, hlen, some x, cap, by rw [hlen], by omega, hm, by simp, ?_⟩
    by_cases h0 : len = 0
    · subst h0
      exact .inl (by simp)
    · obtain ⟨b, off, spot⟩ := x
      have hc := hcell 0 (by omega)
      have hspot : spot = none := by simpa [Addr.add] using World.cell?_spot hc
      subst hspot
      refine .inr ⟨b, off, rfl, fun i hi => ?_⟩
      rw [hlen] at hi
      have h1 := hcell i (by omega)
      have hadd : (⟨b, off, none⟩ : Addr).add i = ⟨b, off + i, none⟩ := by unfold Addr.add; split <;> simp_all
      rw [hadd] at h1
      rw [h1]
      have hwf := hwz (zs.getD i 0) (by rw [List.getD_eq_getElem?_getD, List.getElem?_eq_getElem (by omega)]; simp)
      have hb : 0 ≤ zs.getD i 0 ∧ zs.getD i 0 ≤ 255 := by simpa [Lit.wf, IntKind.min, IntKind.max, IntKind.bits, IntKind.signed] using hwf
      have e : ((zs.take len).map fun z => UInt8.ofNat z.toNat).getD i 0 = UInt8.ofNat (zs.getD i 0).toNat := by
        simp only [List.getD_eq_getElem?_getD, List.getElem?_map, List.getElem?_take, if_pos hi]
        rw [List.getElem?_eq_getElem (by omega)]
        simp
      rw [e]
      show some (Value.int .u8 (zs.getD i 0)) = some (.int .u8 (((UInt8.ofNat (zs.getD i 0).toNat).toNat : Nat) : Int))
      rw [UInt8.toNat_ofNat']
      congr 2
      omega

end Go.Cor
end

section
namespace Go.Proofs.YtllbngopfganjaaGreatDoor.Nd
open Go.RowKit Go.Cor Go.ChangeShapes Go.WideShapes Go.Joins Go.Deep
variable {H : Type} {enc : TypeId × Value → H} {W : World}

theorem isB_of_trod {fuel : Nat} {c : Value} {y : DataW H × List MemPlace} (h : DataW.trod enc Tryz.prog W 0 (fun _ => true) true fuel 33 [c] = some y) : ∃ l : List UInt8, IsB W c l := by
  rcases open_ints Tryz.underlying33 Tryz.underlying5 (by kernel_rfl) h with ⟨hcs, _⟩ | ⟨x, l, c', zs, hcs, _, hl, hm, hz, _, hcell, hwz⟩
  · simp only [List.cons.injEq, and_true] at hcs
    subst hcs
    exact ⟨[], IsB.nil _⟩
  · simp only [List.cons.injEq, and_true] at hcs
    subst hcs
    obtain ⟨l', e, h'⟩ := isB_of_row (w := W) (a := some x) (len := l) (cap := c') (zs := zs) (.inr ⟨x, rfl, hl, hm, by simpa using hz, hcell, hwz⟩)
    exact ⟨l', h'⟩

theorem trod4_at {P : Program} {base : Nat} {spare : Nat → Bool} {held : Bool} {t : TypeId} {f0 f1 f2 f3 : Field} {fuel : Nat} {c0 c1 c2 c3 : Value} {x : DataW H × List MemPlace} (ht : P.underlying t = some (.struct #[f0, f1, f2, f3])) (hone : oneCellFields P #[f0, f1, f2, f3] = true)
    (h : DataW.trod enc P W base spare held fuel t [c0, c1, c2, c3] = some x) :
    ∃ y0 y1 y2 y3 n, DataW.trod enc P W base spare held n f0.type [c0] = some y0 ∧ DataW.trod enc P W base spare held n f1.type [c1] = some y1 ∧ DataW.trod enc P W base spare held n f2.type [c2] = some y2 ∧ DataW.trod enc P W base spare held n f3.type [c3] = some y3 := by
  obtain ⟨y0, y1, y2, y3, n, _, _, h0, h1, h2, h3⟩ := trod_struct4 ht h
  obtain ⟨o0, k0⟩ := hone_of hone 0 f0 rfl
  obtain ⟨o1, k1⟩ := hone_of hone 1 f1 rfl
  obtain ⟨o2, k2⟩ := hone_of hone 2 f2 rfl
  obtain ⟨o3, k3⟩ := hone_of hone 3 f3 rfl
  exact ⟨y0, y1, y2, y3, n, by simpa [o0, k0] using h0, by simpa [o1, k1] using h1, by simpa [o2, k2] using h2, by simpa [o3, k3] using h3⟩

theorem ndl_of_trods {f0 f1 f2 f3 : Nat} {c0 c1 c2 c3 : Value} {y0 y1 y2 y3 : DataW H × List MemPlace} (h0 : DataW.trod enc Tryz.prog W 0 (fun _ => true) true f0 31 [c0] = some y0) (h1 : DataW.trod enc Tryz.prog W 0 (fun _ => true) true f1 32 [c1] = some y1)
    (h2 : DataW.trod enc Tryz.prog W 0 (fun _ => true) true f2 4 [c2] = some y2) (h3 : DataW.trod enc Tryz.prog W 0 (fun _ => true) true f3 33 [c3] = some y3) :
    ∃ n : Ndl, c0 = .int .u64 (n.key : Int) ∧ c1 = .int .u32 (n.cookie : Int) ∧ c2 = .bool n.gone ∧ n.fits ∧ IsB W c3 n.data := by
  obtain ⟨a, e0, _, wa⟩ := DataW.trod_int Tryz.underlying31 h0
  obtain ⟨b, e1, _, wb⟩ := DataW.trod_int Tryz.underlying32 h1
  obtain ⟨g, e2, _⟩ := DataW.trod_bool Tryz.underlying4 h2
  obtain ⟨l, hl⟩ := isB_of_trod h3
  simp only [List.cons.injEq, and_true] at e0 e1 e2
  subst e0 e1 e2
  have b1 := wf_u64 wa
  have b2 := wf_u32 wb
  obtain ⟨k, rfl⟩ := Int.eq_ofNat_of_zero_le b1.1
  obtain ⟨c, rfl⟩ := Int.eq_ofNat_of_zero_le b2.1
  exact ⟨⟨k, c, g, l⟩, rfl, rfl, rfl, ⟨by show k < 18446744073709551616; omega, by show c < 4294967296; omega⟩, hl⟩

end Go.Proofs.YtllbngopfganjaaGreatDoor.Nd
end

section
namespace Go.Proofs.YtllbngopfganjaaGreatDoor.Nd
open Go.RowKit Go.Cor Go.ChangeShapes Go.WideShapes Go.Joins Go.Deep
variable {H : Type} {enc : TypeId × Value → H} {W : World}

theorem list9 {α : Type} {l : List α} (h : l.length = 9) : ∃ a b c d e f g i j, l = [a, b, c, d, e, f, g, i, j] := by
  match l, h with
  | [a, b, c, d, e, f, g, i, j], _ => exact ⟨a, b, c, d, e, f, g, i, j, rfl⟩
theorem list12 {α : Type} {l : List α} (h : l.length = 12) : ∃ a b c d e f g i j k m n, l = [a, b, c, d, e, f, g, i, j, k, m, n] := by
  match l, h with
  | [a, b, c, d, e, f, g, i, j, k, m, n], _ => exact ⟨a, b, c, d, e, f, g, i, j, k, m, n, rfl⟩
theorem Tryz.coInt14 : Tryz.prog.cellsOf 3 = 1 := by kernel_rfl
theorem Tryz.coU6414 : Tryz.prog.cellsOf 31 = 1 := by kernel_rfl
theorem Tryz.coBool14 : Tryz.prog.cellsOf 4 = 1 := by kernel_rfl
theorem Tryz.coN14 : Tryz.prog.cellsOf 35 = 4 := by kernel_rfl
theorem Tryz.coM14 : Tryz.prog.cellsOf 37 = 12 := by kernel_rfl
end Go.Proofs.YtllbngopfganjaaGreatDoor.Nd
end

section
namespace Go.Cor
open Go.RowKit Go.ChangeShapes Go.WideShapes Go.Joins Go.Deep
variable {H : Type} {enc : TypeId × Value → H} {W : World} {P : Program}

theorem list_of {α : Type} {Q : Nat → α → Prop} (n : Nat) (h : ∀ i, i < n → ∃ x, Q i x) : ∃ l : List α, l.length = n ∧ ∀ i x, l[i]? = some x → Q i x := by
  induction n with
  | zero => exact ⟨[], rfl, fun i x h => by simp at h⟩
  | succ k ih =>
    obtain ⟨l, hlen, hl⟩ := ih (fun i hi => h i (by omega))
    obtain ⟨x, hx⟩ := h k (by omega)
    refine ⟨l ++ [x], by simp [hlen], fun i y hi => ?_⟩
    by_cases hik : i < k
    · rw [List.getElem?_append_left (by omega)] at hi
      exact hl i y hi
    · have hlt := (List.getElem?_eq_some_iff.1 hi).1
      simp [hlen] at hlt
      obtain rfl : i = k := by omega
      rw [List.getElem?_append_right (by omega), hlen] at hi
      simp at hi
      subst hi
      exact hx

theorem rows_of_trod {α : Type} {size : Nat} {T U : TypeId} (en : α → List Value) (good : α → Prop) (hT : P.underlying T = some (.slice U)) (hC : P.cellsOf U = size) (hs : 0 < size) (hen : ∀ x, (en x).length = size)
    (el : ∀ fuel cs y, DataW.trod enc P W 0 (fun _ => true) true fuel U cs = some y → ∃ x, cs = en x ∧ good x)
    {fuel : Nat} {c : Value} {y : DataW H × List MemPlace} (h : DataW.trod enc P W 0 (fun _ => true) true fuel T [c] = some y) :
    ∃ l : List α, IsX W size c l.length (row en l) ∧ ∀ x ∈ l, good x := by
  rcases open_slice hT h with ⟨hcs, _⟩ | ⟨x, len, cap, m, k, D, Pl, hcs, _, hl, hm, hmm, _, hi⟩
  · simp only [List.cons.injEq, and_true] at hcs
    subst hcs
    exact ⟨[], IsX.nil _ _, fun x hx => by cases hx⟩
  · simp only [List.cons.injEq, and_true] at hcs
    subst hcs
    have hml : len ≤ m := by simp at hmm; omega
    obtain ⟨b, off, spot⟩ := x
    have each : ∀ i, i < len → ∃ z : α, good z ∧ ∀ j, j < size → W.cell? (((⟨b, off, spot⟩ : Addr).add (i * size)).add j) = (en z)[j]? := fun i hil => by
      obtain ⟨cs', hc, ht⟩ := hi i (by omega)
      rw [hC] at hc
      obtain ⟨_, hcl, hat⟩ := World.cells?_some hc
      obtain ⟨z, rfl, hz⟩ := el _ _ _ ht
      exact ⟨z, hz, hat⟩
    obtain ⟨l, hlen, hl'⟩ := list_of len each
    refine ⟨l, ⟨some ⟨b, off, spot⟩, cap, by rw [hlen], by omega, hm, length_row hen l, (fun h => by cases h), ?_⟩, fun z hz => ?_⟩
    · by_cases h0 : len = 0
      · exact .inl (by omega)
      · have hspot : spot = none := by
          obtain ⟨z, _, hat⟩ := each 0 (by omega)
          have h1 : (en z)[0]? = some ((en z)[0]'(by rw [hen]; exact hs)) := List.getElem?_eq_getElem _
          have := World.cell?_spot ((hat 0 hs).trans h1)
          simpa [Addr.add] using this
        subst hspot
        simp only [add_lit] at hl'
        refine .inr ⟨b, off, rfl, fun j hj => ?_⟩
        rw [hlen] at hj
        have hq : j / size < len := Nat.div_lt_of_lt_mul (by rw [Nat.mul_comm]; exact hj)
        have hz := List.getElem?_eq_getElem (l := l) (i := j / size) (by omega)
        obtain ⟨_, hc⟩ := hl' _ _ hz
        have hm2 := Nat.mod_lt j hs
        have e : j = j / size * size + j % size := by rw [Nat.mul_comm]; exact (Nat.div_add_mod j size).symm
        have h1 := hc (j % size) hm2
        have h2 := row_get hen hz (j % size) hm2
        rw [← e] at h2
        rw [h2, ← h1]
        congr 2
        omega
    · obtain ⟨i, hi'⟩ := List.getElem?_of_mem hz
      exact (hl' i z hi').1

end Go.Cor
end

section
namespace Go.Proofs.YtllbngopfganjaaGreatDoor.Nd
open Go.RowKit Go.Cor Go.ChangeShapes Go.WideShapes Go.Joins Go.Deep
variable {H : Type} {enc : TypeId × Value → H} {W : World}

theorem trod_s5 {P : Program} {t : TypeId} {f0 f1 f2 f3 f4 : Field} {fuel : Nat} {cs : List Value} {x : DataW H × List MemPlace} (ht : P.underlying t = some (.struct #[f0, f1, f2, f3, f4])) (h : DataW.trod enc P W 0 (fun _ => true) true fuel t cs = some x) :
    ∃ y0 y1 y2 y3 y4 n, cs.length = P.cellsOf t ∧ DataW.trod enc P W 0 (fun _ => true) true n f0.type ((cs.drop f0.offset).take (P.cellsOf f0.type)) = some y0 ∧ DataW.trod enc P W 0 (fun _ => true) true n f1.type ((cs.drop f1.offset).take (P.cellsOf f1.type)) = some y1 ∧ DataW.trod enc P W 0 (fun _ => true) true n f2.type ((cs.drop f2.offset).take (P.cellsOf f2.type)) = some y2 ∧ DataW.trod enc P W 0 (fun _ => true) true n f3.type ((cs.drop f3.offset).take (P.cellsOf f3.type)) = some y3 ∧ DataW.trod enc P W 0 (fun _ => true) true n f4.type ((cs.drop f4.offset).take (P.cellsOf f4.type)) = some y4 := by
  obtain ⟨xs, n, _, _, hl, hlen, hf⟩ := DataW.trod_struct ht h
  match xs, hlen with
  | [y0, y1, y2, y3, y4], _ => exact ⟨y0, y1, y2, y3, y4, n, hl, by simpa using hf 0 f0 rfl, by simpa using hf 1 f1 rfl, by simpa using hf 2 f2 rfl, by simpa using hf 3 f3 rfl, by simpa using hf 4 f4 rfl⟩
theorem trod_s2 {P : Program} {t : TypeId} {f0 f1 : Field} {fuel : Nat} {cs : List Value} {x : DataW H × List MemPlace} (ht : P.underlying t = some (.struct #[f0, f1])) (h : DataW.trod enc P W 0 (fun _ => true) true fuel t cs = some x) :
    ∃ y0 y1 n, cs.length = P.cellsOf t ∧ DataW.trod enc P W 0 (fun _ => true) true n f0.type ((cs.drop f0.offset).take (P.cellsOf f0.type)) = some y0 ∧ DataW.trod enc P W 0 (fun _ => true) true n f1.type ((cs.drop f1.offset).take (P.cellsOf f1.type)) = some y1 := by
  obtain ⟨xs, n, _, _, hl, hlen, hf⟩ := DataW.trod_struct ht h
  match xs, hlen with
  | [y0, y1], _ => exact ⟨y0, y1, n, hl, by simpa using hf 0 f0 rfl, by simpa using hf 1 f1 rfl⟩
theorem list17 {α : Type} {l : List α} (h : l.length = 17) : ∃ a0 a1 a2 a3 a4 a5 a6 a7 a8 a9 a10 a11 a12 a13 a14 a15 a16, l = [a0, a1, a2, a3, a4, a5, a6, a7, a8, a9, a10, a11, a12, a13, a14, a15, a16] := by
  match l, h with
  | [a0, a1, a2, a3, a4, a5, a6, a7, a8, a9, a10, a11, a12, a13, a14, a15, a16], _ => exact ⟨a0, a1, a2, a3, a4, a5, a6, a7, a8, a9, a10, a11, a12, a13, a14, a15, a16, rfl⟩
theorem Tryz.coA17 : Tryz.prog.cellsOf 42 = 17 := by kernel_rfl
theorem Tryz.coPk17 : Tryz.prog.cellsOf 40 = 2 := by kernel_rfl
theorem Tryz.coPs17 : Tryz.prog.cellsOf 38 = 1 := by kernel_rfl
theorem slice_of_trod {P : Program} {T U : TypeId} (hT : P.underlying T = some (.slice U)) {fuel : Nat} {c : Value} {y : DataW H × List MemPlace} (h : DataW.trod enc P W 0 (fun _ => true) true fuel T [c] = some y) : ∃ x n k, c = .slice x n k := by
  rcases open_slice hT h with ⟨hcs, _⟩ | ⟨x, len, cap, m, k, D, Pl, hcs, _⟩
  · simp only [List.cons.injEq, and_true] at hcs
    exact ⟨_, _, _, hcs⟩
  · simp only [List.cons.injEq, and_true] at hcs
    exact ⟨_, _, _, hcs⟩
set_option maxRecDepth 10000 in
theorem msg_of_trod (fuel : Nat) (cs : List Value) (y : DataW H × List MemPlace) (hf : DataW.trod enc Tryz.prog W 0 (fun _ => true) true fuel 37 cs = some y) : ∃ (m : Msg) (vd : Value), cs = mcl (m, vd) ∧ m.n.fits ∧ m.id < 18446744073709551616 ∧ IsB W vd m.n.data := by
  have hl0 := (DataW.trod_struct Tryz.underlying37 hf)
  obtain ⟨_, _, _, _, hl0, _, _⟩ := hl0
  obtain ⟨c0, c1, c2, c3, c4, c5, c6, c7, c8, c9, c10, c11, rfl⟩ := list12 (hl0.trans Tryz.coM14)
  obtain ⟨xs, n, _, _, hl, hlen, hfs⟩ := DataW.trod_struct Tryz.underlying37 hf
  obtain ⟨y0, y1, y2, y3, y4, y5, y6, y7, y8, rfl⟩ := list9 hlen
  have g0 := hfs 0 _ rfl
  have g1 := hfs 1 _ rfl
  have g2 := hfs 2 _ rfl
  have g3 := hfs 3 _ rfl
  have g4 := hfs 4 _ rfl
  have g5 := hfs 5 _ rfl
  have g6 := hfs 6 _ rfl
  have g7 := hfs 7 _ rfl
  have g8 := hfs 8 _ rfl
  simp only [Value.cells, Tryz.coInt14, Tryz.coU6414, Tryz.coBool14, Tryz.coN14, List.drop_zero, List.drop_succ_cons, List.take_succ_cons, List.take_zero, List.getElem?_cons_zero, List.getElem?_cons_succ] at g0 g1 g2 g3 g4 g5 g6 g7 g8
  obtain ⟨a0, e0, _, _⟩ := DataW.trod_int Tryz.underlying3 g0
  obtain ⟨a1, e1, _, _⟩ := DataW.trod_int Tryz.underlying3 g1
  obtain ⟨a2, e2, _, _⟩ := DataW.trod_int Tryz.underlying3 g2
  obtain ⟨a3, e3, _, _⟩ := DataW.trod_int Tryz.underlying3 g3
  obtain ⟨a4, e4, _, _⟩ := DataW.trod_int Tryz.underlying3 g4
  obtain ⟨a5, e5, _, w5⟩ := DataW.trod_int Tryz.underlying31 g5
  obtain ⟨a6, e6, _, _⟩ := DataW.trod_int Tryz.underlying3 g6
  obtain ⟨a7, e7, _⟩ := DataW.trod_bool Tryz.underlying4 g7
  obtain ⟨z0, z1, z2, z3, m', k0, k1, k2, k3⟩ := trod4_at Tryz.underlying35 (by kernel_rfl) g8
  obtain ⟨nd, rfl, rfl, rfl, hnf, hB⟩ := ndl_of_trods k0 k1 k2 k3
  obtain rfl := (List.cons.inj e0).1
  obtain rfl := (List.cons.inj e1).1
  obtain rfl := (List.cons.inj e2).1
  obtain rfl := (List.cons.inj e3).1
  obtain rfl := (List.cons.inj e4).1
  obtain rfl := (List.cons.inj e5).1
  obtain rfl := (List.cons.inj e6).1
  obtain rfl := (List.cons.inj e7).1
  have b5 := wf_u64 w5
  obtain ⟨i, rfl⟩ := Int.eq_ofNat_of_zero_le b5.1
  exact ⟨⟨a0, a1, a2, a3, a4, i, a6, a7, nd⟩, c11, rfl, hnf, by show i < 18446744073709551616; omega, hB⟩
set_option maxRecDepth 10000 in
theorem act17_of_trod (fuel : Nat) (cs : List Value) (y : DataW H × List MemPlace) (h : DataW.trod enc Tryz.prog W 0 (fun _ => true) true fuel 42 cs = some y) : ∃ x : A17, cs = zcl x ∧ Good17 W x := by
  obtain ⟨y0, y1, y2, y3, y4, n, hl, h0, h1, h2, h3, h4⟩ := trod_s5 Tryz.underlying42 h
  rw [Tryz.coA17] at hl
  obtain ⟨d0, d1, d2, d3, d4, d5, d6, d7, d8, d9, d10, d11, d12, d13, d14, d15, d16, rfl⟩ := list17 hl
  simp only [Tryz.coInt14, Tryz.coM14, Tryz.coPk17, List.drop_zero, List.drop_succ_cons, List.take_succ_cons, List.take_zero] at h0 h1 h2 h3 h4
  obtain ⟨a0, e0, _, w0⟩ := DataW.trod_int Tryz.underlying3 h0
  obtain ⟨a1, e1, _, w1⟩ := DataW.trod_int Tryz.underlying3 h1
  obtain ⟨a2, e2, _, w2⟩ := DataW.trod_int Tryz.underlying3 h2
  obtain ⟨m, vd, em, hf, hid, hB⟩ := msg_of_trod _ _ _ h3
  obtain ⟨z0, z1, n2, _, g0, g1⟩ := trod_s2 Tryz.underlying40 h4
  simp only [Tryz.coInt14, Tryz.coPs17, List.drop_zero, List.drop_succ_cons, List.take_succ_cons, List.take_zero] at g0 g1
  obtain ⟨a3, e3, _, w3⟩ := DataW.trod_int Tryz.underlying3 g0
  obtain ⟨px, pl, pc, rfl⟩ := slice_of_trod Tryz.underlying38 g1
  simp only [List.cons.injEq, and_true] at e0 e1 e2 e3
  subst e0 e1 e2 e3
  have em2 := congrArg (fun t => [Value.int .i64 a0, .int .i64 a1, .int .i64 a2] ++ (t ++ [Value.int .i64 a3, .slice px pl pc])) em
  exact ⟨⟨a0, a1, a2, m, vd, a3, px, pl, pc⟩, em2, hB, hf, hid⟩
theorem acts17_of_trod {fuel : Nat} {c : Value} {y : DataW H × List MemPlace} (h : DataW.trod enc Tryz.prog W 0 (fun _ => true) true fuel 22 [c] = some y) : ∃ l : List A17, IsZ W c l :=
  rows_of_trod zcl (Good17 W) Tryz.underlying22 Tryz.coA17 (by decide) zcl_len act17_of_trod h

end Go.Proofs.YtllbngopfganjaaGreatDoor.Nd
end
