/- Acts of the disk's laws: as values, in memory, as they are read. -/
import Derived.Test.YtnofabeajcdddaaChecked
import Derived.Test.YtnofabeajcdddaaNms
import Derived.Test.YtnofabeajcdddaaUsed
import Derived.Test.YtnofabeajcdddaaOpenX
namespace Go.Proofs.Ytnofabeajcdddaa
open Go.RowKit Go.Cor Go.ChangeShapes Go.WideShapes Go.Joins Go.Deep
variable {H : Type} {enc : TypeId × Value → H} {W : World}

/-- An act, and where its bytes and its picks lie. -/
structure Ac where
  kind : Int
  name : ByteArray
  dst : ByteArray
  bv : Value
  n : Int
  m : Int
  pn : Int
  pv : Value
  b : List UInt8
  pf : List Pck
def acv (a : Ac) : List Value := [.int .i64 a.kind, .string a.name, .string a.dst, a.bv, .int .i64 a.n, .int .i64 a.m, .int .i64 a.pn, a.pv]
theorem acv_len (a : Ac) : (acv a).length = 8 := rfl
def is64 (z : Int) : Prop := -9223372036854775808 ≤ z ∧ z ≤ 9223372036854775807
structure Ac.In (w : World) (a : Ac) : Prop where
  k : is64 a.kind
  n : is64 a.n
  m : is64 a.m
  pn : is64 a.pn
  b : IsB w a.bv a.b
  p : IsX w 2 a.pv a.pf.length (row pck a.pf)
structure Acts (w : World) (v : Value) (l : List Ac) : Prop where
  is : IsX w 8 v l.length (row acv l)
  each : ∀ a ∈ l, a.In w
theorem Ac.In.mono {w w' : World} {a : Ac} {B : Nat} (h : a.In w) (hb : Below B w w') (hB : w.heap.size ≤ B) : a.In w' := ⟨h.k, h.n, h.m, h.pn, h.b.mono hb hB, h.p.mono hb hB⟩
theorem Acts.mono {w w' : World} {v : Value} {l : List Ac} {B : Nat} (h : Acts w v l) (hb : Below B w w') (hB : w.heap.size ≤ B) : Acts w' v l := ⟨h.is.mono hb hB, fun a ha => (h.each a ha).mono hb hB⟩

theorem isB_of_trod {fuel : Nat} {c : Value} {y : DataW H × List MemPlace} (h : DataW.trod enc Try.prog W 0 (fun _ => true) true fuel 37 [c] = some y) : ∃ l : List UInt8, IsB W c l := by
  rcases open_ints Try.underlying37 Try.underlying5 (by kernel_rfl) h with ⟨hcs, _⟩ | ⟨x, l, c', zs, hcs, _, hl, hm, hz, _, hcell, hwz⟩
  · simp only [List.cons.injEq, and_true] at hcs
    subst hcs
    exact ⟨[], IsB.nil _⟩
  · simp only [List.cons.injEq, and_true] at hcs
    subst hcs
    obtain ⟨l', e, h'⟩ := isB_of_row (w := W) (a := some x) (len := l) (cap := c') (zs := zs) (.inr ⟨x, rfl, hl, hm, by simpa using hz, hcell, hwz⟩)
    exact ⟨l', h'⟩

theorem Try.coI : Try.prog.cellsOf 3 = 1 := by kernel_rfl
theorem Try.coS : Try.prog.cellsOf 9 = 1 := by kernel_rfl
theorem Try.coB : Try.prog.cellsOf 37 = 1 := by kernel_rfl
theorem Try.coU : Try.prog.cellsOf 5 = 1 := by kernel_rfl
theorem Try.coPs : Try.prog.cellsOf 42 = 2 := by kernel_rfl
theorem Try.coPl : Try.prog.cellsOf 40 = 1 := by kernel_rfl
theorem Try.coP : Try.prog.cellsOf 109 = 2 := by kernel_rfl
theorem Try.coA : Try.prog.cellsOf 44 = 8 := by kernel_rfl

theorem pck_of_trod (fuel : Nat) (cs : List Value) (y : DataW H × List MemPlace) (h : DataW.trod enc Try.prog W 0 (fun _ => true) true fuel 109 cs = some y) : ∃ x, cs = pck x ∧ True := by
  obtain ⟨y0, y1, n, _, hl, h0, h1⟩ := trod_struct2 Try.underlying109 h
  rw [Try.coP] at hl
  obtain ⟨c0, c1, rfl⟩ := list2 hl
  simp only [Try.coI, Try.coU, List.drop_zero, List.drop_succ_cons, List.take_succ_cons, List.take_zero] at h0 h1
  obtain ⟨a, e0, _, wa⟩ := DataW.trod_int Try.underlying3 h0
  obtain ⟨b, e1, _, wb⟩ := DataW.trod_int Try.underlying5 h1
  simp only [List.cons.injEq, and_true] at e0 e1
  subst e0 e1
  have hb := wf_u8 wb
  refine ⟨⟨a, UInt8.ofNat b.toNat⟩, ?_, trivial⟩
  have e : ((UInt8.ofNat b.toNat).toNat : Int) = b := by
    rw [UInt8.toNat_ofNat']
    omega
  simp only [pck]
  rw [e]
theorem pcks_of_trod {fuel : Nat} {c : Value} {y : DataW H × List MemPlace} (h : DataW.trod enc Try.prog W 0 (fun _ => true) true fuel 40 [c] = some y) : ∃ ps : List Pck, IsX W 2 c ps.length (row pck ps) := by
  obtain ⟨l, h1, _⟩ := rows_of_trod pck (fun _ => True) Try.underlying40 Try.coP (by decide) pck_len pck_of_trod h
  exact ⟨l, h1⟩
set_option maxRecDepth 10000 in
theorem act_of_trod (fuel : Nat) (cs : List Value) (y : DataW H × List MemPlace) (h : DataW.trod enc Try.prog W 0 (fun _ => true) true fuel 44 cs = some y) : ∃ x, cs = acv x ∧ x.In W := by
  obtain ⟨y0, y1, y2, y3, y4, y5, y6, n, hl, h0, h1, h2, h3, h4, h5, h6⟩ := trod_struct7 Try.underlying44 h
  rw [Try.coA] at hl
  obtain ⟨c0, c1, c2, c3, c4, c5, c6, c7, rfl⟩ := list8 hl
  simp only [Try.coI, Try.coS, Try.coB, Try.coPs, List.drop_zero, List.drop_succ_cons, List.take_succ_cons, List.take_zero] at h0 h1 h2 h3 h4 h5 h6
  obtain ⟨a0, e0, _, w0⟩ := DataW.trod_int Try.underlying3 h0
  obtain ⟨a1, e1, _, w1⟩ := DataW.trod_string Try.underlying9 h1
  obtain ⟨a2, e2, _, w2⟩ := DataW.trod_string Try.underlying9 h2
  obtain ⟨b, hb⟩ := isB_of_trod h3
  obtain ⟨a4, e4, _, w4⟩ := DataW.trod_int Try.underlying3 h4
  obtain ⟨a5, e5, _, w5⟩ := DataW.trod_int Try.underlying3 h5
  obtain ⟨z0, z1, n2, _, _, g0, g1⟩ := trod_struct2 Try.underlying42 h6
  simp only [Try.coI, Try.coPl, List.drop_zero, List.drop_succ_cons, List.take_succ_cons, List.take_zero] at g0 g1
  obtain ⟨a6, e6, _, w6⟩ := DataW.trod_int Try.underlying3 g0
  obtain ⟨pf, hp⟩ := pcks_of_trod g1
  simp only [List.cons.injEq, and_true] at e0 e1 e2 e4 e5 e6
  subst e0 e1 e2 e4 e5 e6
  exact ⟨⟨a0, a1, a2, c3, a4, a5, a6, c7, b, pf⟩, rfl, wf_i64 w0, wf_i64 w4, wf_i64 w5, wf_i64 w6, hb, hp⟩
theorem acts_of_trod {fuel : Nat} {c : Value} {y : DataW H × List MemPlace} (h : DataW.trod enc Try.prog W 0 (fun _ => true) true fuel 22 [c] = some y) : ∃ l : List Ac, Acts W c l := by
  obtain ⟨l, h1, h2⟩ := rows_of_trod acv (fun a => a.In W) Try.underlying22 Try.coA (by decide) acv_len act_of_trod h
  exact ⟨l, h1, h2⟩
set_option maxRecDepth 100000 in
theorem open_picks {r : Reach} {b0 : Nat} {v : Value} {d : DataW H} {p : List MemPlace} (hv : Value.okWide Try.prog W r b0 42 v) (h : DataW.Trod enc Try.prog W 0 (fun _ => true) true 42 v d p) :
    ∃ (n : Int) (pv : Value) (ps : List Pck), v = .agg #[.int .i64 n, pv] ∧ is64 n ∧ IsX W 2 pv ps.length (row pck ps) := by
  obtain ⟨c0, c1, y0, y1, m, rfl, _, _, h0, h1⟩ := open_agg2 Try.underlying42 (by kernel_rfl) (by kernel_rfl) hv h
  obtain ⟨a, e0, _, w0⟩ := DataW.trod_int Try.underlying3 h0
  obtain ⟨ps, hp⟩ := pcks_of_trod h1
  simp only [List.cons.injEq, and_true] at e0
  subst e0
  exact ⟨a, c1, ps, rfl, wf_i64 w0, hp⟩

end Go.Proofs.Ytnofabeajcdddaa
