/- The table of package once (layer 16): a map keyed by a place and a number, with messages in it. -/
import Derived.Test.YtncfdkkekaninaaNk
import Derived.Test.YtncfdkkekaninaaFf
import Derived.Test.YtncfdkkekaninaaRef14
set_option linter.unusedVariables false
set_option linter.unusedSimpArgs false
namespace Go.Proofs.Ytncfdkkekaninaa
open Go.RowKit Go.Cor

theorem Try.rowAs : (62 : TypeId) < Try.prog.types.size := of_decide_eq_true (by kernel_rfl)
theorem Try.lawAs : Go.Maps.Keyed Try.prog 62 := law_struct Try.laidOut15 Try.rowAs (by kernel_rfl) Try.underlying62
theorem Try.keyAs : Try.prog.keyType 62 = true := by kernel_rfl
theorem Try.coAs : Try.prog.cellsOf 62 = 2 := by kernel_rfl
theorem Try.coIntO : Try.prog.cellsOf 3 = 1 := by kernel_rfl
theorem Try.coU64O : Try.prog.cellsOf 23 = 1 := by kernel_rfl
theorem Try.zeroMs (w : World) : (zeroValue 42).run Try.prog w = .ok (mval mz (.slice none 0 0)) w := by kernel_rfl
/-- A number that an Id's slot can hold. -/
def wfU (q : Nat) : Prop := (Lit.int .u64 (q : Int)).wf = true
theorem wfU_of {q : Nat} (h : q < 18446744073709551616) : wfU q := WalkArith.wf_u64 ⟨by omega, by omega⟩
/-- What a key reads as. -/
def klq (a : Int) (q : Nat) : Lit := .string (keyBytes [.int .i64 a, .int .u64 (q : Int)])
theorem keyLits_iu {P : Program} {k : TypeId} {f0 f1 : Field} {n : Nat} {a : Int} {b : Nat} (hk : P.underlying k = some (.struct #[f0, f1])) (hn : (#[f0, f1] : Array Field).all (·.name != "_") = true) (hc : P.cellsOf k = 2)
    (t0 : P.underlying f0.type = some (.int .i64)) (t1 : P.underlying f1.type = some (.int .u64)) (c0 : P.cellsOf f0.type = 1) (c1 : P.cellsOf f1.type = 1) (o0 : f0.offset = 0) (o1 : f1.offset = 1) (ha : wfI a) (hb : wfU b) :
    P.keyLits (n + 2) k [.int .i64 a, .int .u64 (b : Int)] = some [.int .i64 a, .int .u64 (b : Int)] := by
  unfold wfI at ha
  unfold wfU at hb
  have e0 : P.keyLits (n + 1) f0.type [.int .i64 a] = some [.int .i64 a] := by
    unfold Program.keyLits
    rw [t0]
    simp [ha]
  have e1 : P.keyLits (n + 1) f1.type [.int .u64 (b : Int)] = some [.int .u64 (b : Int)] := by
    unfold Program.keyLits
    rw [t1]
    simp [hb]
  unfold Program.keyLits
  rw [hk]
  simp [hc, c0, c1, o0, o1, e0, e1]
  simpa using hn
theorem keyOf_iu {P : Program} {k : TypeId} {f0 f1 : Field} {a : Int} {b : Nat} (hr : k < P.types.size) (hkt : P.keyType k = true) (hk : P.underlying k = some (.struct #[f0, f1])) (hn : (#[f0, f1] : Array Field).all (·.name != "_") = true) (hc : P.cellsOf k = 2)
    (t0 : P.underlying f0.type = some (.int .i64)) (t1 : P.underlying f1.type = some (.int .u64)) (c0 : P.cellsOf f0.type = 1) (c1 : P.cellsOf f1.type = 1) (o0 : f0.offset = 0) (o1 : f1.offset = 1) (ha : wfI a) (hb : wfU b) :
    keyOf P k (.agg #[.int .i64 a, .int .u64 (b : Int)]) = some (klq a b) := by
  obtain ⟨n, hsz⟩ : ∃ n, P.types.size + 1 = n + 2 := ⟨P.types.size - 1, by have h0 : 0 < P.types.size := Nat.lt_of_le_of_lt (Nat.zero_le _) hr; omega⟩
  have h := keyLits_iu (n := n) hk hn hc t0 t1 c0 c1 o0 o1 ha hb
  unfold keyOf
  rw [hk, hsz]
  simp [hkt, Value.formed, hk, hc, Value.cells, h, klq]
theorem keyOf_as {a : Int} {q : Nat} (ha : wfI a) (hq : wfU q) : keyOf Try.prog 62 (.agg #[.int .i64 a, .int .u64 (q : Int)]) = some (klq a q) :=
  keyOf_iu Try.rowAs Try.keyAs Try.underlying62 (by kernel_rfl) Try.coAs Try.underlying3 Try.underlying23 Try.coIntO Try.coU64O rfl rfl ha hq
theorem klq_inj {a c : Int} {b d : Nat} (ha : wfI a) (hb : wfU b) (hc : wfI c) (hd : wfU d) (h : klq a b = klq c d) : a = c ∧ b = d := by
  have h1 := keyOf_as ha hb
  have h2 := keyOf_as hc hd
  rw [h] at h1
  have := Try.lawAs.inj h1 h2
  simp at this
  omega
theorem klq_key {a : Int} {b : Nat} (ha : wfI a) (hb : wfU b) : WideAt.IsKeyLit (klq a b) := Try.lawAs.key (keyOf_as ha hb)

/-- An element as it stands. -/
def heldR (v : Value) : Option (DataW Value × List MemPlace) := some (.held v, [])
/-- The first answer under a place and a number. -/
def lookT (a : Int) (q : Nat) (l : List (Msg × Value)) : Option (Msg × Value) := l.find? fun x => hasP a q x.1
def valT (o : Option (Msg × Value)) (z : DataW Value) : DataW Value := match o with | some x => .held (mval x.1 x.2) | none => z
theorem lookT_snoc (a : Int) (q : Nat) (l : List (Msg × Value)) (x : Msg × Value) : lookT a q (l ++ [x]) = (lookT a q l).or (if hasP a q x.1 then some x else none) := by
  unfold lookT
  rw [List.find?_append]
  simp [List.find?_cons]
  cases hasP a q x.1 <;> rfl
theorem hasP_self (m : Msg) : hasP m.to m.id m = true := by unfold hasP; simp
theorem hasP_iff {a : Int} {q : Nat} {m : Msg} : hasP a q m = true ↔ m.to = a ∧ m.id = q := by unfold hasP; simp
theorem findP_map_neg (a : Int) (q : Nat) : ∀ l : List Msg, (findP a q l < 0 ↔ ∀ m ∈ l, hasP a q m = false)
  | [] => by simp [findP]
  | m :: l => by
    have ih := findP_map_neg a q l
    unfold findP
    cases hm : hasP a q m with
    | true => simp [hm]
    | false =>
      simp only [Bool.false_eq_true, if_false]
      have hge : ∀ l : List Msg, -1 ≤ findP a q l := fun l => by
        induction l with
        | nil => exact Int.le_refl _
        | cons x l ih => unfold findP; split; exact (by omega); split <;> omega
      have := hge l
      split
      · rename_i h
        constructor
        · intro _ x hx
          rcases List.mem_cons.1 hx with rfl | hx
          · exact hm
          · exact ih.1 h x hx
        · intro _; decide
      · rename_i h
        constructor
        · intro h2; omega
        · intro h2
          exact absurd (ih.2 fun x hx => h2 x (List.mem_cons_of_mem _ hx)) h
theorem lookT_none {a : Int} {q : Nat} {l : List (Msg × Value)} : lookT a q l = none ↔ findP a q (l.map (·.1)) < 0 := by
  rw [findP_map_neg]
  unfold lookT
  rw [List.find?_eq_none]
  simp
theorem lookT_some {a : Int} {q : Nat} {l : List (Msg × Value)} {x : Msg × Value} (h : lookT a q l = some x) : x ∈ l ∧ hasP a q x.1 = true := ⟨List.mem_of_find?_eq_some h, List.find?_some (p := fun x : Msg × Value => hasP a q x.1) h⟩
/-- The first one is the one whose number Find tells. -/
theorem lookT_at {a : Int} {q : Nat} : ∀ {l : List (Msg × Value)} {x : Msg × Value}, lookT a q l = some x → ∃ i : Nat, findP a q (l.map (·.1)) = (i : Int) ∧ l[i]? = some x
  | [], x, h => by simp [lookT] at h
  | y :: l, x, h => by
    unfold lookT at h
    rw [List.find?_cons] at h
    cases hy : hasP a q y.1 with
    | true =>
      rw [hy] at h
      cases h
      exact ⟨0, by simp [findP, hy], rfl⟩
    | false =>
      rw [hy] at h
      obtain ⟨i, h1, h2⟩ := lookT_at (l := l) (x := x) h
      refine ⟨i + 1, ?_, by simpa using h2⟩
      simp only [List.map_cons, findP, hy, Bool.false_eq_true, if_false, h1]
      rw [if_neg (by omega)]
      omega

/-- The map reads as the list. -/
structure TabD (D : DataW Value) (l : List (Msg × Value)) : Prop where
  dat : ∀ a q, wfI a → wfU q → ∀ z, D.atKey (klq a q) z = valT (lookT a q l) z
  dhas : ∀ a q, wfI a → wfU q → Go.Maps.has D (klq a q) = (lookT a q l).isSome
  dsize : Go.Maps.size D = l.length
theorem TabD.empty : TabD (.map []) [] := ⟨fun _ _ _ _ _ => rfl, fun _ _ _ _ => rfl, rfl⟩
theorem TabD.put {D : DataW Value} {l : List (Msg × Value)} (h : TabD D l) (hD : Go.Maps.Tidy D) {m : Msg} {v : Value} (ha : wfI m.to) (hq : wfU m.id) (hn : lookT m.to m.id l = none) : TabD (D.put (klq m.to m.id) (.held (mval m v))) (l ++ [(m, v)]) := by
  refine ⟨fun a q wa wq z => ?_, fun a q wa wq => ?_, ?_⟩
  · by_cases hs : hasP a q m = true
    · obtain ⟨rfl, rfl⟩ := hasP_iff.1 hs
      rw [Go.Maps.atKey_put_same hD.isMap (klq_key ha hq), lookT_snoc, hn, if_pos hs]
      rfl
    · rw [Go.Maps.atKey_put_other (fun e => hs (hasP_iff.2 (klq_inj ha hq wa wq e.symm))), lookT_snoc, if_neg hs, Option.or_none]
      exact h.dat a q wa wq z
  · by_cases hs : hasP a q m = true
    · obtain ⟨rfl, rfl⟩ := hasP_iff.1 hs
      rw [Go.Maps.has_put_same hD.isMap (klq_key ha hq), lookT_snoc, hn, if_pos hs]
      rfl
    · rw [Go.Maps.has_put_other (fun e => hs (hasP_iff.2 (klq_inj ha hq wa wq e.symm))), lookT_snoc, if_neg hs, Option.or_none]
      exact h.dhas a q wa wq
  · rw [Go.Maps.size_put hD, h.dhas _ _ ha hq, hn, h.dsize, List.length_append]
    rfl
section
variable {H : Type} {P : Program} {k e t : TypeId} {R : Value → Option (DataW H × List MemPlace)} {w : World} {b n : Nat} {D : DataW H}
/-- The bound is the number. -/
theorem ownsMap_tight (h : w.ownsMap P k R b n D) : w.ownsMap P k R b (Go.Maps.size D) D := by
  obtain ⟨es, clock, hb, F, hs, rfl⟩ := h
  exact ⟨es, clock, hb, F, by simp [Go.Maps.size, length_sorted], rfl⟩
/-- 'clear(m)'. -/
theorem ownsMap_clear (h : w.ownsMap P k R b n D) (ht : P.underlying t = some (.map k e)) (ty : TypeId) :
    ∃ w', (Builtin.clear_ #[t] ty #[.map (some b)]).run P w = .ok (.tuple #[]) w' ∧ w'.ownsMap P k R b 0 (.map []) ∧ w.mapTurned w' b := by
  obtain ⟨es, clock, hb, F, hs, rfl⟩ := h
  refine ⟨Go.ChangeMaps.setBlock w b (.map #[] clock), ?_, ⟨#[], clock, Go.ChangeMaps.heap_setBlock_same hb _, ⟨by simp, MapKept.stamped_empty _, by simp⟩, Nat.le_refl _, rfl⟩, ⟨es, clock, #[], clock, hb, rfl⟩⟩
  simp [Builtin.clear_, run_underlying ht, MapKept.run_getObj_map hb, MapKept.run_setObj_map _ hb, Result.andThen, Go.ChangeMaps.setBlock]
end
/-- The map of a table in memory. -/
def TabAt (w : World) (b : Nat) (l : List (Msg × Value)) : Prop := ∃ D, w.ownsMap Try.prog 62 heldR b l.length D ∧ TabD D l
theorem TabAt.lt {w : World} {b : Nat} {l : List (Msg × Value)} (h : TabAt w b l) : b < w.heap.size := by
  obtain ⟨D, h1, _⟩ := h
  exact h1.lt
theorem TabAt.kept {T : Nat → Prop} {w w' : World} {b : Nat} {l : List (Msg × Value)} (h : TabAt w b l) (hk : Kept T w w') (hT : ¬ T b) : TabAt w' b l := by
  obtain ⟨D, h2, h3⟩ := h
  have hlt := h2.lt
  obtain ⟨es, clock, hb, F, hs, hD⟩ := h2
  exact ⟨D, ⟨es, clock, (hk.block b hlt hT).trans hb, F, hs, hD⟩, h3⟩
theorem TabAt.look {w : World} {b : Nat} {l : List (Msg × Value)} (h : TabAt w b l) {a : Int} {q : Nat} (ha : wfI a) (hq : wfU q) :
    (Instr.lookup 57 (.map (some b)) (.agg #[.int .i64 a, .int .u64 (q : Int)]) true).run Try.prog w = .ok (.tuple #[(match lookT a q l with | some x => mval x.1 x.2 | none => mval mz (.slice none 0 0)), .bool (lookT a q l).isSome]) w := by
  obtain ⟨D, h1, hD⟩ := h
  obtain ⟨v, p, h2, h3⟩ := h1.look_ok Try.lawAs Try.underlying57 (Try.zeroMs w) (zd := .held (mval mz (.slice none 0 0))) (zp := []) rfl (keyOf_as ha hq)
  rw [hD.dhas a q ha hq] at h2
  rw [hD.dat a q ha hq] at h3
  simp only [heldR, Option.some.injEq, Prod.mk.injEq] at h3
  rw [h2]
  cases hl : lookT a q l with
  | none => rw [hl] at h3; have := h3.1; simp only [valT] at this; cases this; rfl
  | some x => rw [hl] at h3; have := h3.1; simp only [valT] at this; cases this; rfl
theorem TabAt.len {w : World} {b : Nat} {l : List (Msg × Value)} (h : TabAt w b l) (ty : TypeId) : (Builtin.len_ #[57] ty #[.map (some b)]).run Try.prog w = .ok (.int .i64 (l.length : Int)) w := by
  obtain ⟨D, h1, hD⟩ := h
  have := h1.len Try.underlying57 ty
  rw [hD.dsize] at this
  exact this
theorem kept_of_turned16 {w w' : World} {b : Nat} (h : w.mapTurned w' b) (S : Nat → Prop) (hS : S b) : Kept S w w' :=
  (Kept.refl S w).grown h.grown (fun k e => by cases e; exact .inl hS)
theorem TabAt.clear {w : World} {b : Nat} {l : List (Msg × Value)} (h : TabAt w b l) :
    ∃ w', (∀ ty, (Builtin.clear_ #[57] ty #[.map (some b)]).run Try.prog w = .ok (.tuple #[]) w') ∧ TabAt w' b [] ∧ Kept (fun k => k = b) w w' := by
  obtain ⟨D, h1, hD⟩ := h
  obtain ⟨w', h2, h3, h4⟩ := ownsMap_clear h1 Try.underlying57 0
  exact ⟨w', fun ty => h2, ⟨_, h3, TabD.empty⟩, kept_of_turned16 h4 _ rfl⟩
theorem TabAt.store {w : World} {b : Nat} {l : List (Msg × Value)} (h : TabAt w b l) (hK : l.length < maxLen) {m : Msg} (ha : wfI m.to) (hq : wfU m.id) (hn : lookT m.to m.id l = none) (v : Value) :
    ∃ w', (Instr.mapUpdate 57 (.map (some b)) (.agg #[.int .i64 m.to, .int .u64 (m.id : Int)]) (mval m v)).run Try.prog w = .ok () w' ∧ TabAt w' b (l ++ [(m, v)]) ∧ Kept (fun k => k = b) w w' := by
  obtain ⟨D, h1, hD⟩ := h
  obtain ⟨w', h2, h3, h4⟩ := h1.store Try.lawAs Try.underlying57 hK (keyOf_as ha hq) (val := mval m v) (d := .held (mval m v)) (ps := []) rfl
  refine ⟨w', h2, ⟨_, ?_, hD.put (h1.tidy Try.lawAs) ha hq hn⟩, kept_of_turned16 h4 _ rfl⟩
  rw [List.length_append]
  exact h3
theorem TabAt.made (w : World) : TabAt (w.alloc (.map #[] 0)) w.heap.size [] := ⟨_, World.ownsMap_made w _ _ _, TabD.empty⟩

end Go.Proofs.Ytncfdkkekaninaa
