/- Errs, Law03, Ref14, Ok, Frz, Ot, Ref14c, Ref14e, Ow, Of, Wn, OrdE. -/
import Derived.Test.YtllbngopfganjaaGreatDoorChecked
import Derived.WalkKit
import Derived.LaidEql
import Derived.Stop.Asserts
import Derived.RowKitTokens
import Derived.Lib.Hide
import Derived.Test.YtllbngopfganjaaGreatDoorM2
import Derived.Test.YtllbngopfganjaaGreatDoorM1
import Derived.Deep.CutRange
import Derived.Deep.RegionHeld3
import Derived.StillTailTactics
import Derived.RegionTactic
import Derived.ProofKit
import Derived.Deep.RegionWith
import Derived.Deep.QuietTactic
import Derived.BigQuiet
import Derived.Deep.RegionHeld
set_option linter.unusedVariables false
set_option linter.unusedSimpArgs false

section
namespace Go.Proofs.YtllbngopfganjaaGreatDoor
open Go.RowKit Go.Extern.Stop Go.Stop Go.Extern

/-- Are two codes, as errors, one and the same? As their numbers are. -/
theorem eql_codes {P : Program} {E C : TypeId} {ms : Array (String × TypeId)} {inf : TypeInfo} (x y : Int) (w : World)
    (h1 : P.underlying E = some (.interface ms)) (h2 : P.underlying C = some (.int .i64)) (h3 : P.info? C = some inf) (h4 : inf.comparable = true) :
    (binOp .eql E (.iface C (.int .i64 x)) (.iface C (.int .i64 y))).run P w = .ok (.bool (x == y)) w := by
  have depth : ∀ d, (Op.equalIn (d + 2) E (.iface C (.int .i64 x)) (.iface C (.int .i64 y))).run P w = .ok (x == y) w := fun d => by
    simp [Op.equalIn, typeInfo, run_underlying h1, run_underlying h2, h3, h4]
  have d := depth 9998
  simp only [binOp]
  simp [Op.equal, Op.maxDepth, d]

theorem Tryz.isTypeOf (v : Value) (w : World) : (Extern.ReflectliteType.typeOf #[.iface 59 v]).run Tryz.prog w = .ok (.iface 152 (.agg #[.pointer (some ⟨5, 59, none⟩)])) w := by kernel_rfl
theorem Tryz.isComparable (w : World) : ((Extern.ReflectliteType.method fun t => do Rtype.noPackHeld "Comparable" t; (fun a => Value.bool a.comparable) <$> typeInfo t) #[.agg #[.pointer (some ⟨5, 59, none⟩)]]).run Tryz.prog w = .ok (.bool true) w := by kernel_rfl
theorem Tryz.isComp : (Tryz.prog.info? 59).map (·.comparable) = some true := by kernel_rfl
theorem Tryz.noIs (v : Value) (xT : TypeId) (w : World) : (Instr.typeAssert (.iface 59 v) xT 154 true).run Tryz.prog w = .ok (.tuple #[.nilIface, .bool false]) w := run_typeAssert_lacksB Tryz.underlying154 (by kernel_rfl) (by kernel_rfl) v xT w
theorem Tryz.noUnwrap (v : Value) (xT : TypeId) (w : World) : (Instr.typeAssert (.iface 59 v) xT 157 true).run Tryz.prog w = .ok (.tuple #[.nilIface, .bool false]) w := run_typeAssert_lacksB Tryz.underlying157 (by kernel_rfl) (by kernel_rfl) v xT w
theorem Tryz.noUnwraps (v : Value) (xT : TypeId) (w : World) : (Instr.typeAssert (.iface 59 v) xT 158 true).run Tryz.prog w = .ok (.tuple #[.nilIface, .bool false]) w := run_typeAssert_lacksB Tryz.underlying158 (by kernel_rfl) (by kernel_rfl) v xT w

/-- errors.Is of a code and itself. -/
theorem is_same (a : Int) (w : World) :
    Calls Tryz.prog 29 #[.iface 59 (.int .i64 a), .iface 59 (.int .i64 a)] w fun e w' => e = .returned (.bool true) ∧ w = w' := by
  obtain ⟨i, hi, hcmp⟩ := Option.map_eq_some_iff.1 Tryz.isComp
  have h8 := @run_callFunc_extern Tryz.prog 49 _ Extern.ReflectliteType.typeOf Tryz.func49 (by kernel_rfl) (by kernel_rfl) (by kernel_rfl) (by kernel_rfl)
  have h32 := @run_callFunc_extern Tryz.prog 179 _ (Extern.ReflectliteType.method fun t => do Rtype.noPackHeld "Comparable" t; pure (.bool (← typeInfo t).comparable)) Tryz.func179 (by kernel_rfl) (by kernel_rfl) (by kernel_rfl) (by kernel_rfl)
  have tT := Tryz.isTypeOf
  have cT := Tryz.isComparable
  have mR : ∀ (v : Value) (w : World), (Go.method 391 152 v "Comparable").run Tryz.prog w = .ok (179, v) w := fun v w => by kernel_rfl
  have heq := eql_codes (P := Tryz.prog) a a w Tryz.underlying27 Tryz.underlying59 hi hcmp
  have hb : (a == a) = true := by simp
  go_enter Tryz.func29, Tryz.ntmps29
  go_wp2
  refine wp_loop_rounds 1 ?_
  rw [rounds_succ]
  go_wp2
  go_ret
  exact ⟨rfl, rfl⟩

/-- errors.Is of two unlike codes. -/
theorem is_other (a b : Int) (w : World) (hne : a ≠ b) :
    Calls Tryz.prog 29 #[.iface 59 (.int .i64 a), .iface 59 (.int .i64 b)] w fun e w' => e = .returned (.bool false) ∧ w = w' := by
  obtain ⟨i, hi, hcmp⟩ := Option.map_eq_some_iff.1 Tryz.isComp
  have h8 := @run_callFunc_extern Tryz.prog 49 _ Extern.ReflectliteType.typeOf Tryz.func49 (by kernel_rfl) (by kernel_rfl) (by kernel_rfl) (by kernel_rfl)
  have h32 := @run_callFunc_extern Tryz.prog 179 _ (Extern.ReflectliteType.method fun t => do Rtype.noPackHeld "Comparable" t; pure (.bool (← typeInfo t).comparable)) Tryz.func179 (by kernel_rfl) (by kernel_rfl) (by kernel_rfl) (by kernel_rfl)
  have tT := Tryz.isTypeOf
  have cT := Tryz.isComparable
  have mR : ∀ (v : Value) (w : World), (Go.method 391 152 v "Comparable").run Tryz.prog w = .ok (179, v) w := fun v w => by kernel_rfl
  have nI := Tryz.noIs
  have nU := Tryz.noUnwrap
  have nV := Tryz.noUnwraps
  have heq := eql_codes (P := Tryz.prog) a b w Tryz.underlying27 Tryz.underlying59 hi hcmp
  have hb : (a == b) = false := by simpa using hne
  go_enter Tryz.func29, Tryz.ntmps29
  go_wp2
  refine wp_loop_rounds 1 ?_
  rw [rounds_succ]
  go_wp2
  go_ret
  exact ⟨rfl, rfl⟩

/-- Code of no error. -/
theorem code_nil (w : World) :
    Calls Tryz.prog 12 #[.nilIface] w fun e w' => e = .returned (.int .i64 0) ∧ w = w' := by
  go_enter Tryz.func12, Tryz.ntmps12
  go_wp2
  go_ret
  exact ⟨rfl, rfl⟩

/-- Code of a code. -/
theorem code_code (k : Int) (w : World) (h1 : 1 ≤ k) (h2 : k ≤ 17) :
    Calls Tryz.prog 12 #[.iface 59 (.int .i64 k)] w fun e w' => e = .returned (.int .i64 k) ∧ w = w' := by
  go_enter Tryz.func12, Tryz.ntmps12
  go_wp2
  go_loop [3] (fun c => ∃ j : Int, 1 ≤ j ∧ j ≤ k ∧ c = .int .i64 j) (fun c => 18 - (intOf c).toNat)
  case atStart => exact ⟨1, by omega, by omega, rfl⟩
  case round =>
    obtain ⟨j, hj1, hj2, rfl⟩ := hrel
    have hj17 : j ≤ 17 := by omega
    by_cases hkj : k = j
    · subst hkj
      go_wp2_with (go_at_call 29; refine (is_same _ _).mono ?_; rintro e w' ⟨rfl, rfl⟩)
      go_ret
      exact ⟨rfl, rfl⟩
    · have hlt : j + 1 ≤ k := by omega
      go_wp2_with (go_at_call 29; refine (is_other _ _ _ hkj).mono ?_; rintro e w' ⟨rfl, rfl⟩)
      go_round
      case rel => exact ⟨j + 1, by omega, by omega, rfl⟩
      case measure => simp [intOf]; omega

end Go.Proofs.YtllbngopfganjaaGreatDoor
end

section
namespace Go.Proofs.YtllbngopfganjaaGreatDoor.Nd
open Go.RowKit Go.Cor

theorem code_cerr (q : Nat) (w : World) (h : q ≤ 17) :
    Calls Tryz.prog 12 #[cerr q] w fun e w' => e = .returned (.int .i64 (q : Int)) ∧ w = w' := by
  by_cases h0 : q = 0
  · subst h0
    exact code_nil w
  · rw [cerr_pos h0]
    exact code_code q w (by omega) (by omega)

theorem put_any (n : Ndl) (v : Value) (w : World) (hv : IsB w v n.data) (hf : n.fits) :
    Calls Tryz.prog 118 #[nval n v] w fun e w' =>
      ∃ x c k, e = .returned (.tuple #[.slice x k c, cerr (ncheck n)]) ∧ Below w.heap.size w w' ∧
        ((ncheck n = 0 ∧ k = (nbytes n).length ∧ w'.ownsRow w.heap.size 5 1 (.slice x k c) k (bvs (nbytes n))) ∨ (ncheck n ≠ 0 ∧ k = 0)) := by
  by_cases h : ncheck n = 0
  · refine (put_okN n v w hv hf h).mono ?_
    rintro e w' ⟨v', rfl, hown, hb⟩
    obtain ⟨x, c, rfl⟩ := ownsRow_slice hown
    rw [h, cerr_0]
    exact ⟨x, c, _, rfl, hb, .inl ⟨rfl, rfl, hown⟩⟩
  · refine (put_badN n v w hv h).mono ?_
    rintro e w' ⟨rfl, hb⟩
    rw [cerr_pos h]
    exact ⟨none, 0, 0, rfl, hb, .inr ⟨h, rfl⟩⟩

end Go.Proofs.YtllbngopfganjaaGreatDoor.Nd
end

section
namespace Go.Proofs.YtllbngopfganjaaGreatDoor.Nd
open Go.RowKit Go.Cor

/-- A message as a value; v: its data's slice. -/
abbrev mval (m : Msg) (v : Value) : Value := .agg #[.int .i64 m.fr, .int .i64 m.to, .int .i64 m.kd, .int .i64 m.vo, .int .i64 m.li, .int .u64 (m.id : Int), .int .i64 m.co, .bool m.has, .int .u64 (m.n.key : Int), .int .u32 (m.n.cookie : Int), .bool m.n.gone, v]
end Go.Proofs.YtllbngopfganjaaGreatDoor.Nd
end

section
namespace Go.Proofs.YtllbngopfganjaaGreatDoor.Nd
open Go.RowKit Go.Cor

theorem Tryz.rowAs : (115 : TypeId) < Tryz.prog.types.size := of_decide_eq_true (by kernel_rfl)
theorem Tryz.lawAs : Go.Maps.Keyed Tryz.prog 115 := law_struct Tryz.laidOut15 Tryz.rowAs (by kernel_rfl) Tryz.underlying115
theorem Tryz.keyAs : Tryz.prog.keyType 115 = true := by kernel_rfl
theorem Tryz.coAs : Tryz.prog.cellsOf 115 = 2 := by kernel_rfl
theorem Tryz.coIntO : Tryz.prog.cellsOf 3 = 1 := by kernel_rfl
theorem Tryz.coU64O : Tryz.prog.cellsOf 31 = 1 := by kernel_rfl
theorem Tryz.zeroMs (w : World) : (zeroValue 45).run Tryz.prog w = .ok (mval mz (.slice none 0 0)) w := by kernel_rfl
/-- A number that an Id's slot can hold. -/
def wfU (q : Nat) : Prop := (Lit.int .u64 (q : Int)).wf = true
theorem wfU_of {q : Nat} (h : q < 18446744073709551616) : wfU q := WalkArith.wf_u64 ⟨by omega, by omega⟩
/-- What a key reads as. -/
def klq (a : Int) (q : Nat) : Lit := .string (keyBytes [.int .i64 a, .int .u64 (q : Int)])
theorem keyLits_iu {P : Program} {k : TypeId} {f0 f1 : Field} {n : Nat} {a : Int} {b : Nat} (hk : P.underlying k = some (.struct #[f0, f1])) (hn : (#[f0, f1] : Array Field).all (·.name != "_") = true) (hc : P.cellsOf k = 2)
    (t0 : P.underlying f0.type = some (.int .i64)) (t1 : P.underlying f1.type = some (.int .u64)) (c0 : P.cellsOf f0.type = 1) (c1 : P.cellsOf f1.type = 1) (o0 : f0.offset = 0) (o1 : f1.offset = 1) (ha : wfI a) (hb : wfU b) :
    P.keyLits (n + 2) k [.int .i64 a, .int .u64 (b : Int)] = some [.int .i64 a, .int .u64 (b : Int)] := by
  unfold wfI at ha
  unfold wfU at hb
  have e0 : P.keyLits (n + 1) f0.type [.int .i64 a] = some [.int .i64 a] := by
    unfold Program.keyLits
    rw [t0]
    simp [ha]
  have e1 : P.keyLits (n + 1) f1.type [.int .u64 (b : Int)] = some [.int .u64 (b : Int)] := by
    unfold Program.keyLits
    rw [t1]
    simp [hb]
  unfold Program.keyLits
  rw [hk]
  simp [hc, c0, c1, o0, o1, e0, e1]
  simpa using hn
theorem keyOf_iu {P : Program} {k : TypeId} {f0 f1 : Field} {a : Int} {b : Nat} (hr : k < P.types.size) (hkt : P.keyType k = true) (hk : P.underlying k = some (.struct #[f0, f1])) (hn : (#[f0, f1] : Array Field).all (·.name != "_") = true) (hc : P.cellsOf k = 2)
    (t0 : P.underlying f0.type = some (.int .i64)) (t1 : P.underlying f1.type = some (.int .u64)) (c0 : P.cellsOf f0.type = 1) (c1 : P.cellsOf f1.type = 1) (o0 : f0.offset = 0) (o1 : f1.offset = 1) (ha : wfI a) (hb : wfU b) :
    keyOf P k (.agg #[.int .i64 a, .int .u64 (b : Int)]) = some (klq a b) := by
  obtain ⟨n, hsz⟩ : ∃ n, P.types.size + 1 = n + 2 := ⟨P.types.size - 1, by have h0 : 0 < P.types.size := Nat.lt_of_le_of_lt (Nat.zero_le _) hr; omega⟩
  have h := keyLits_iu (n := n) hk hn hc t0 t1 c0 c1 o0 o1 ha hb
  unfold keyOf
  rw [hk, hsz]
  simp [hkt, Value.formed, hk, hc, Value.cells, h, klq]
theorem keyOf_as {a : Int} {q : Nat} (ha : wfI a) (hq : wfU q) : keyOf Tryz.prog 115 (.agg #[.int .i64 a, .int .u64 (q : Int)]) = some (klq a q) :=
  keyOf_iu Tryz.rowAs Tryz.keyAs Tryz.underlying115 (by kernel_rfl) Tryz.coAs Tryz.underlying3 Tryz.underlying31 Tryz.coIntO Tryz.coU64O rfl rfl ha hq
theorem klq_inj {a c : Int} {b d : Nat} (ha : wfI a) (hb : wfU b) (hc : wfI c) (hd : wfU d) (h : klq a b = klq c d) : a = c ∧ b = d := by
  have h1 := keyOf_as ha hb
  have h2 := keyOf_as hc hd
  rw [h] at h1
  have := Tryz.lawAs.inj h1 h2
  simp at this
  omega
theorem klq_key {a : Int} {b : Nat} (ha : wfI a) (hb : wfU b) : WideAt.IsKeyLit (klq a b) := Tryz.lawAs.key (keyOf_as ha hb)

/-- An element as it stands. -/
def heldR (v : Value) : Option (DataW Value × List MemPlace) := some (.held v, [])
/-- The first answer under a place and a number. -/
def lookT (a : Int) (q : Nat) (l : List (Msg × Value)) : Option (Msg × Value) := l.find? fun x => hasP a q x.1
def valT (o : Option (Msg × Value)) (z : DataW Value) : DataW Value := match o with | some x => .held (mval x.1 x.2) | none => z
theorem lookT_snoc (a : Int) (q : Nat) (l : List (Msg × Value)) (x : Msg × Value) : lookT a q (l ++ [x]) = (lookT a q l).or (if hasP a q x.1 then some x else none) := by
  unfold lookT
  rw [List.find?_append]
  simp [List.find?_cons]
  cases hasP a q x.1 <;> rfl
theorem hasP_iff {a : Int} {q : Nat} {m : Msg} : hasP a q m = true ↔ m.to = a ∧ m.id = q := by unfold hasP; simp
theorem findP_map_neg (a : Int) (q : Nat) : ∀ l : List Msg, (findP a q l < 0 ↔ ∀ m ∈ l, hasP a q m = false)
  | [] => by simp [findP]
  | m :: l => by
    have ih := findP_map_neg a q l
    unfold findP
    cases hm : hasP a q m with
    | true => simp [hm]
    | false =>
      simp only [Bool.false_eq_true, if_false]
      have hge : ∀ l : List Msg, -1 ≤ findP a q l := fun l => by
        induction l with
        | nil => exact Int.le_refl _
        | cons x l ih => unfold findP; split; exact (by omega); split <;> omega
      have := hge l
      split
      · rename_i h
        constructor
        · intro _ x hx
          rcases List.mem_cons.1 hx with rfl | hx
          · exact hm
          · exact ih.1 h x hx
        · intro _; decide
      · rename_i h
        constructor
        · intro h2; omega
        · intro h2
          exact absurd (ih.2 fun x hx => h2 x (List.mem_cons_of_mem _ hx)) h
theorem lookT_none {a : Int} {q : Nat} {l : List (Msg × Value)} : lookT a q l = none ↔ findP a q (l.map (·.1)) < 0 := by
  rw [findP_map_neg]
  unfold lookT
  rw [List.find?_eq_none]
  simp
theorem lookT_some {a : Int} {q : Nat} {l : List (Msg × Value)} {x : Msg × Value} (h : lookT a q l = some x) : x ∈ l ∧ hasP a q x.1 = true := ⟨List.mem_of_find?_eq_some h, List.find?_some (p := fun x : Msg × Value => hasP a q x.1) h⟩
/-- The first one is the one whose number Find tells. -/
theorem lookT_at {a : Int} {q : Nat} : ∀ {l : List (Msg × Value)} {x : Msg × Value}, lookT a q l = some x → ∃ i : Nat, findP a q (l.map (·.1)) = (i : Int) ∧ l[i]? = some x
  | [], x, h => by simp [lookT] at h
  | y :: l, x, h => by
    unfold lookT at h
    rw [List.find?_cons] at h
    cases hy : hasP a q y.1 with
    | true =>
      rw [hy] at h
      cases h
      exact ⟨0, by simp [findP, hy], rfl⟩
    | false =>
      rw [hy] at h
      obtain ⟨i, h1, h2⟩ := lookT_at (l := l) (x := x) h
      refine ⟨i + 1, ?_, by simpa using h2⟩
      simp only [List.map_cons, findP, hy, Bool.false_eq_true, if_false, h1]
      rw [if_neg (by omega)]
      omega

/-- The map reads as the list. -/
structure TabD (D : DataW Value) (l : List (Msg × Value)) : Prop where
  dat : ∀ a q, wfI a → wfU q → ∀ z, D.atKey (klq a q) z = valT (lookT a q l) z
  dhas : ∀ a q, wfI a → wfU q → Go.Maps.has D (klq a q) = (lookT a q l).isSome
  dsize : Go.Maps.size D = l.length
theorem TabD.empty : TabD (.map []) [] := ⟨fun _ _ _ _ _ => rfl, fun _ _ _ _ => rfl, rfl⟩
theorem TabD.put {D : DataW Value} {l : List (Msg × Value)} (h : TabD D l) (hD : Go.Maps.Tidy D) {m : Msg} {v : Value} (ha : wfI m.to) (hq : wfU m.id) (hn : lookT m.to m.id l = none) : TabD (D.put (klq m.to m.id) (.held (mval m v))) (l ++ [(m, v)]) := by
  refine ⟨fun a q wa wq z => ?_, fun a q wa wq => ?_, ?_⟩
  · by_cases hs : hasP a q m = true
    · obtain ⟨rfl, rfl⟩ := hasP_iff.1 hs
      rw [Go.Maps.atKey_put_same hD.isMap (klq_key ha hq), lookT_snoc, hn, if_pos hs]
      rfl
    · rw [Go.Maps.atKey_put_other (fun e => hs (hasP_iff.2 (klq_inj ha hq wa wq e.symm))), lookT_snoc, if_neg hs, Option.or_none]
      exact h.dat a q wa wq z
  · by_cases hs : hasP a q m = true
    · obtain ⟨rfl, rfl⟩ := hasP_iff.1 hs
      rw [Go.Maps.has_put_same hD.isMap (klq_key ha hq), lookT_snoc, hn, if_pos hs]
      rfl
    · rw [Go.Maps.has_put_other (fun e => hs (hasP_iff.2 (klq_inj ha hq wa wq e.symm))), lookT_snoc, if_neg hs, Option.or_none]
      exact h.dhas a q wa wq
  · rw [Go.Maps.size_put hD, h.dhas _ _ ha hq, hn, h.dsize, List.length_append]
    rfl
section
variable {H : Type} {P : Program} {k e t : TypeId} {R : Value → Option (DataW H × List MemPlace)} {w : World} {b n : Nat} {D : DataW H}
/-- 'clear(m)'. -/
theorem ownsMap_clear (h : w.ownsMap P k R b n D) (ht : P.underlying t = some (.map k e)) (ty : TypeId) :
    ∃ w', (Builtin.clear_ #[t] ty #[.map (some b)]).run P w = .ok (.tuple #[]) w' ∧ w'.ownsMap P k R b 0 (.map []) ∧ w.mapTurned w' b := by
  obtain ⟨es, clock, hb, F, hs, rfl⟩ := h
  refine ⟨Go.ChangeMaps.setBlock w b (.map #[] clock), ?_, ⟨#[], clock, Go.ChangeMaps.heap_setBlock_same hb _, ⟨by simp, MapKept.stamped_empty _, by simp⟩, Nat.le_refl _, rfl⟩, ⟨es, clock, #[], clock, hb, rfl⟩⟩
  simp [Builtin.clear_, run_underlying ht, MapKept.run_getObj_map hb, MapKept.run_setObj_map _ hb, Result.andThen, Go.ChangeMaps.setBlock]
end
/-- The map of a table in memory. -/
def TabAt (w : World) (b : Nat) (l : List (Msg × Value)) : Prop := ∃ D, w.ownsMap Tryz.prog 115 heldR b l.length D ∧ TabD D l
theorem TabAt.lt {w : World} {b : Nat} {l : List (Msg × Value)} (h : TabAt w b l) : b < w.heap.size := by
  obtain ⟨D, h1, _⟩ := h
  exact h1.lt
theorem TabAt.kept {T : Nat → Prop} {w w' : World} {b : Nat} {l : List (Msg × Value)} (h : TabAt w b l) (hk : Kept T w w') (hT : ¬ T b) : TabAt w' b l := by
  obtain ⟨D, h2, h3⟩ := h
  have hlt := h2.lt
  obtain ⟨es, clock, hb, F, hs, hD⟩ := h2
  exact ⟨D, ⟨es, clock, (hk.block b hlt hT).trans hb, F, hs, hD⟩, h3⟩
theorem TabAt.look {w : World} {b : Nat} {l : List (Msg × Value)} (h : TabAt w b l) {a : Int} {q : Nat} (ha : wfI a) (hq : wfU q) :
    (Instr.lookup 95 (.map (some b)) (.agg #[.int .i64 a, .int .u64 (q : Int)]) true).run Tryz.prog w = .ok (.tuple #[(match lookT a q l with | some x => mval x.1 x.2 | none => mval mz (.slice none 0 0)), .bool (lookT a q l).isSome]) w := by
  obtain ⟨D, h1, hD⟩ := h
  obtain ⟨v, p, h2, h3⟩ := h1.look_ok Tryz.lawAs Tryz.underlying95 (Tryz.zeroMs w) (zd := .held (mval mz (.slice none 0 0))) (zp := []) rfl (keyOf_as ha hq)
  rw [hD.dhas a q ha hq] at h2
  rw [hD.dat a q ha hq] at h3
  simp only [heldR, Option.some.injEq, Prod.mk.injEq] at h3
  rw [h2]
  cases hl : lookT a q l with
  | none => rw [hl] at h3; have := h3.1; simp only [valT] at this; cases this; rfl
  | some x => rw [hl] at h3; have := h3.1; simp only [valT] at this; cases this; rfl
theorem TabAt.len {w : World} {b : Nat} {l : List (Msg × Value)} (h : TabAt w b l) (ty : TypeId) : (Builtin.len_ #[95] ty #[.map (some b)]).run Tryz.prog w = .ok (.int .i64 (l.length : Int)) w := by
  obtain ⟨D, h1, hD⟩ := h
  have := h1.len Tryz.underlying95 ty
  rw [hD.dsize] at this
  exact this
theorem kept_of_turned16 {w w' : World} {b : Nat} (h : w.mapTurned w' b) (S : Nat → Prop) (hS : S b) : Kept S w w' :=
  (Kept.refl S w).grown h.grown (fun k e => by cases e; exact .inl hS)
theorem TabAt.clear {w : World} {b : Nat} {l : List (Msg × Value)} (h : TabAt w b l) :
    ∃ w', (∀ ty, (Builtin.clear_ #[95] ty #[.map (some b)]).run Tryz.prog w = .ok (.tuple #[]) w') ∧ TabAt w' b [] ∧ Kept (fun k => k = b) w w' := by
  obtain ⟨D, h1, hD⟩ := h
  obtain ⟨w', h2, h3, h4⟩ := ownsMap_clear h1 Tryz.underlying95 0
  exact ⟨w', fun ty => h2, ⟨_, h3, TabD.empty⟩, kept_of_turned16 h4 _ rfl⟩
theorem TabAt.store {w : World} {b : Nat} {l : List (Msg × Value)} (h : TabAt w b l) (hK : l.length < maxLen) {m : Msg} (ha : wfI m.to) (hq : wfU m.id) (hn : lookT m.to m.id l = none) (v : Value) :
    ∃ w', (Instr.mapUpdate 95 (.map (some b)) (.agg #[.int .i64 m.to, .int .u64 (m.id : Int)]) (mval m v)).run Tryz.prog w = .ok () w' ∧ TabAt w' b (l ++ [(m, v)]) ∧ Kept (fun k => k = b) w w' := by
  obtain ⟨D, h1, hD⟩ := h
  obtain ⟨w', h2, h3, h4⟩ := h1.store Tryz.lawAs Tryz.underlying95 hK (keyOf_as ha hq) (val := mval m v) (d := .held (mval m v)) (ps := []) rfl
  refine ⟨w', h2, ⟨_, ?_, hD.put (h1.tidy Tryz.lawAs) ha hq hn⟩, kept_of_turned16 h4 _ rfl⟩
  rw [List.length_append]
  exact h3
theorem TabAt.made (w : World) : TabAt (w.alloc (.map #[] 0)) w.heap.size [] := ⟨_, World.ownsMap_made w _ _ _, TabD.empty⟩

end Go.Proofs.YtllbngopfganjaaGreatDoor.Nd
end

section
namespace Go.Cor
open Go.RowKit

/-- v reads as l, and its bytes may be written. -/
def IsF (w : World) (v : Value) (l : List UInt8) : Prop := IsB w v l ∧ ∀ b, liesB v l b → ∀ j, w.frozen? ⟨b, j, none⟩ = false
theorem IsF.nil (w : World) : IsF w (.slice none 0 0) [] := ⟨IsB.nil w, fun b h => absurd rfl h.1⟩
theorem IsF.kept {S : Nat → Prop} {w w' : World} {v : Value} {l : List UInt8} (h : IsF w v l) (hk : Kept S w w') (hs : ∀ k, liesB v l k → ¬ S k) : IsF w' v l :=
  ⟨h.1.kept hk hs, fun b hb j => (hk.frozen (p := ⟨b, j, none⟩) (h.1.lies_lt hb) (hs b hb)).trans (h.2 b hb j)⟩
theorem IsF.mono {w w' : World} {v : Value} {l : List UInt8} {B : Nat} (h : IsF w v l) (hb : Below B w w') (hB : w.heap.size ≤ B) : IsF w' v l :=
  h.kept (S := fun _ => False) (Kept.of_below hb hB) (fun _ _ h => h)
theorem IsF.own {w : World} {base : Nat} {e : TypeId} {v : Value} {l : List UInt8} {n : Nat} (h : w.ownsRow base e 1 v n (bvs l)) (hn : n = l.length) : IsF w v l := by
  refine ⟨IsB.own h hn, fun b hb j => ?_⟩
  rcases h.2 with ⟨rfl, h0⟩ | ⟨g, cap, cur, rfl, _⟩
  · cases hb.2
  · cases hb.2
    exact h.frozenAt j

end Go.Cor
end

section
namespace Go.Proofs.YtllbngopfganjaaGreatDoor.Nd
open Go.RowKit Go.Cor

/-- Why an answer isn't kept; what is kept behind it. -/
def keepK (most : Int) (l : List Msg) (m : Msg) : Nat := if m.kd = 5 then (if mcheck m = 0 then (if 0 ≤ findP m.to m.id l then 8 else if most ≤ (l.length : Int) then 11 else 0) else mcheck m) else 1
def keepL (most : Int) (l : List Msg) (m : Msg) : List Msg := if keepK most l m = 0 then l ++ [m] else l
theorem mcheck_wf {m : Msg} (h : mcheck m = 0) : wfI m.to := by
  obtain ⟨⟨_, _, h1, h2, _⟩, _⟩ := mcheck_ok h
  exact wfI_of (by omega) (by omega)
theorem mcheck_len {m : Msg} (h : mcheck m = 0) : m.n.data.length ≤ 4096 := by
  obtain ⟨_, h1, h2⟩ := mcheck_ok h
  cases hh : m.has with
  | true => exact (ncheck_ok (h1 hh)).1
  | false => rw [h2 hh]; exact Nat.zero_le _
/-- The box at g, the map at b. -/
structure TbAt (w : World) (g b : Nat) (most : Int) (l : List (Msg × Value)) : Prop where
  tblk : Blk w g #[.int .i64 most, .map (some b)] 97
  tgb : b ≠ g
  tmap : TabAt w b l
  tl : ∀ x ∈ l, IsB w x.2 x.1.n.data ∧ (∃ y n c, x.2 = .slice y n c) ∧ ∀ k, liesB x.2 x.1.n.data k → k ≠ g ∧ k ≠ b
/-- Its blocks. -/
def tmem (g b : Nat) (l : List (Msg × Value)) (k : Nat) : Prop := k = g ∨ k = b ∨ ∃ x ∈ l, liesB x.2 x.1.n.data k
section
variable {w w' : World} {g b : Nat} {most : Int} {l : List (Msg × Value)}
theorem TbAt.lt (h : TbAt w g b most l) {k : Nat} (hk : tmem g b l k) : k < w.heap.size := by
  rcases hk with rfl | rfl | ⟨x, hx, hk⟩
  · exact h.tblk.lt
  · exact h.tmap.lt
  · exact (h.tl x hx).1.lies_lt hk
theorem TbAt.kept {T : Nat → Prop} (h : TbAt w g b most l) (hk : Kept T w w') (hT : ∀ k, tmem g b l k → ¬ T k) : TbAt w' g b most l :=
  ⟨h.tblk.kept hk (hT g (.inl rfl)), h.tgb, h.tmap.kept hk (hT b (.inr (.inl rfl))), fun x hx => ⟨(h.tl x hx).1.kept hk fun k e => hT k (.inr (.inr ⟨x, hx, e⟩)), (h.tl x hx).2⟩⟩
theorem TbAt.below {B : Nat} (h : TbAt w g b most l) (hb : Below B w w') (hB : w.heap.size ≤ B) : TbAt w' g b most l :=
  h.kept (T := fun _ => False) (Kept.of_below hb hB) fun _ _ h => h
/-- The map turned. -/
theorem TbAt.turned {l' : List (Msg × Value)} (h : TbAt w g b most l) (hk : Kept (fun k => k = b) w w') (hm : TabAt w' b l') (hl : ∀ x ∈ l', IsB w x.2 x.1.n.data ∧ (∃ y n c, x.2 = .slice y n c) ∧ ∀ k, liesB x.2 x.1.n.data k → k ≠ g ∧ k ≠ b) : TbAt w' g b most l' :=
  ⟨h.tblk.kept hk (fun e => h.tgb e.symm), h.tgb, hm, fun x hx => ⟨(hl x hx).1.kept hk fun k e => ((hl x hx).2.2 k e).2, (hl x hx).2⟩⟩
end
/-- What may be kept. -/
def okM (m : Msg) : Prop := mcheck m = 0 ∧ m.n.fits ∧ m.id < 18446744073709551616
/-- A table in memory: S: its blocks, behind B. -/
def Tb (w : World) (B g : Nat) (S : Nat → Prop) (most : Int) (L : List Msg) : Prop :=
  ∃ b l, TbAt w g b most l ∧ L = l.map (·.1) ∧ (1 ≤ most ∧ most ≤ 4096 ∧ (L.length : Int) ≤ most) ∧ (∀ m ∈ L, okM m) ∧ (∀ k, tmem g b l k → S k) ∧ ∀ k, S k → B ≤ k ∧ k < w.heap.size
section
variable {w w' : World} {B g : Nat} {S : Nat → Prop} {most : Int} {L : List Msg}
theorem Tb.kept {T : Nat → Prop} (h : Tb w B g S most L) (hk : Kept T w w') (hT : ∀ k, S k → ¬ T k) : Tb w' B g S most L := by
  obtain ⟨b, l, h1, h2, h3, h4, h5, h6⟩ := h
  exact ⟨b, l, h1.kept hk fun k hk => hT k (h5 k hk), h2, h3, h4, h5, fun k hk' => ⟨(h6 k hk').1, Nat.lt_of_lt_of_le (h6 k hk').2 hk.size⟩⟩
theorem Tb.below (h : Tb w B g S most L) (hb : Below w.heap.size w w') : Tb w' B g S most L :=
  h.kept (T := fun _ => False) (Kept.of_below hb (Nat.le_refl _)) fun _ _ h => h
theorem Tb.bound (h : Tb w B g S most L) : 1 ≤ most ∧ most ≤ 4096 ∧ (L.length : Int) ≤ most := by
  obtain ⟨b, l, h1, h2, h3, h4, h5, h6⟩ := h
  exact h3
end
/-- What a call of a table leaves: the table anew, and nothing turned but it. -/
structure TbT (w : World) (B g : Nat) (S : Nat → Prop) (most : Int) (L : List Msg) (w' : World) : Prop where
  out : ∃ S', Tb w' B g S' most L ∧ (∀ k, S' k → S k ∨ w.heap.size ≤ k) ∧ Kept S w w'

end Go.Proofs.YtllbngopfganjaaGreatDoor.Nd
end

section
namespace Go.Proofs.YtllbngopfganjaaGreatDoor.Nd
open Go.RowKit Go.Cor

set_option maxRecDepth 100000 in
set_option maxHeartbeats 1000000 in
theorem of_any14 (m : Msg) (x : Option Addr) (L c : Nat) (w : World) :
    Calls Tryz.prog 8 #[mval m (.slice x L c)] w fun e w' => e = .returned (mval m (.slice x L c)) ∧ Below w.heap.size w w' := by
  obtain ⟨fr, tt, kd, vo, li, id, co, has, key, cookie, gone, data⟩ := m
  have HB := Lib.hid (((Below.refl w.heap.size w).alloc (Nat.le_refl _) (.cells #[.int .i64 fr, .int .i64 tt, .int .i64 kd, .int .i64 vo, .int .i64 li, .int .u64 (id : Int), .int .i64 co, .bool has, .int .u64 (key : Int), .int .u32 (cookie : Int), .bool gone, .slice x L c] 37)).alloc (by simp) (.cells #[.int .i64 fr, .int .i64 tt, .int .i64 kd, .int .i64 vo, .int .i64 li, .int .u64 (id : Int), .int .i64 co, .bool has, .int .u64 (key : Int), .int .u32 (cookie : Int), .bool gone, .slice x L c] 45))
  go_enter Tryz.func8, Tryz.ntmps8
  go_wp2
  exact bodyPost_ret (v := .agg #[.int .i64 fr, .int .i64 tt, .int .i64 kd, .int .i64 vo, .int .i64 li, .int .u64 (id : Int), .int .i64 co, .bool has, .int .u64 (key : Int), .int .u32 (cookie : Int), .bool gone, .slice x L c]) (by simp [results, Tryz.results8, go_sem]) rfl ⟨rfl, HB.out⟩

end Go.Proofs.YtllbngopfganjaaGreatDoor.Nd
end

section
namespace Go.Proofs.YtllbngopfganjaaGreatDoor.Nd
open Go.RowKit Go.Cor

def set12 (w : World) (B : Nat) (u0 u1 u2 u3 u4 u5 u6 u7 u8 u9 u10 u11 : Value) : World := ((((((((((((w.setCell ⟨B, 0, none⟩ u0).setCell ⟨B, 1, none⟩ u1).setCell ⟨B, 2, none⟩ u2).setCell ⟨B, 3, none⟩ u3).setCell ⟨B, 4, none⟩ u4).setCell ⟨B, 5, none⟩ u5).setCell ⟨B, 6, none⟩ u6).setCell ⟨B, 7, none⟩ u7).setCell ⟨B, 8, none⟩ u8).setCell ⟨B, 9, none⟩ u9).setCell ⟨B, 10, none⟩ u10).setCell ⟨B, 11, none⟩ u11)
theorem fin12 {w0 w : World} {B : Nat} {a0 a1 a2 a3 a4 a5 a6 a7 a8 a9 a10 a11 : Value} {T : TypeId} (h : Blk w B #[a0, a1, a2, a3, a4, a5, a6, a7, a8, a9, a10, a11] T) (hb : Below w0.heap.size w0 w) (hB : w0.heap.size ≤ B) (u0 u1 u2 u3 u4 u5 u6 u7 u8 u9 u10 u11 : Value) :
    (set12 w B u0 u1 u2 u3 u4 u5 u6 u7 u8 u9 u10 u11).cell? ⟨B, 0, none⟩ = some u0 ∧ (set12 w B u0 u1 u2 u3 u4 u5 u6 u7 u8 u9 u10 u11).cell? ⟨B, 1, none⟩ = some u1 ∧ (set12 w B u0 u1 u2 u3 u4 u5 u6 u7 u8 u9 u10 u11).cell? ⟨B, 2, none⟩ = some u2 ∧ (set12 w B u0 u1 u2 u3 u4 u5 u6 u7 u8 u9 u10 u11).cell? ⟨B, 3, none⟩ = some u3 ∧ (set12 w B u0 u1 u2 u3 u4 u5 u6 u7 u8 u9 u10 u11).cell? ⟨B, 4, none⟩ = some u4 ∧ (set12 w B u0 u1 u2 u3 u4 u5 u6 u7 u8 u9 u10 u11).cell? ⟨B, 5, none⟩ = some u5 ∧ (set12 w B u0 u1 u2 u3 u4 u5 u6 u7 u8 u9 u10 u11).cell? ⟨B, 6, none⟩ = some u6 ∧ (set12 w B u0 u1 u2 u3 u4 u5 u6 u7 u8 u9 u10 u11).cell? ⟨B, 7, none⟩ = some u7 ∧ (set12 w B u0 u1 u2 u3 u4 u5 u6 u7 u8 u9 u10 u11).cell? ⟨B, 8, none⟩ = some u8 ∧ (set12 w B u0 u1 u2 u3 u4 u5 u6 u7 u8 u9 u10 u11).cell? ⟨B, 9, none⟩ = some u9 ∧ (set12 w B u0 u1 u2 u3 u4 u5 u6 u7 u8 u9 u10 u11).cell? ⟨B, 10, none⟩ = some u10 ∧ (set12 w B u0 u1 u2 u3 u4 u5 u6 u7 u8 u9 u10 u11).cell? ⟨B, 11, none⟩ = some u11 ∧ Below w0.heap.size w0 (set12 w B u0 u1 u2 u3 u4 u5 u6 u7 u8 u9 u10 u11) ∧ Kept (fun j => j = B) w (set12 w B u0 u1 u2 u3 u4 u5 u6 u7 u8 u9 u10 u11) := by
  have hz : Blk (set12 w B u0 u1 u2 u3 u4 u5 u6 u7 u8 u9 u10 u11) B #[u0, u1, u2, u3, u4, u5, u6, u7, u8, u9, u10, u11] T := by
    unfold set12
    have h1 := ((((((h.set 0 u0).set 1 u1).set 2 u2).set 3 u3).set 4 u4).set 5 u5)
    simp at h1
    have h2 := ((((((h1.set 6 u6).set 7 u7).set 8 u8).set 9 u9).set 10 u10).set 11 u11)
    simp at h2
    exact h2
  have hbb : Below w0.heap.size w0 (set12 w B u0 u1 u2 u3 u4 u5 u6 u7 u8 u9 u10 u11) := by
    unfold set12
    exact ((((((((((((hb.setCell (p := ⟨B, 0, none⟩) hB u0).setCell (p := ⟨B, 1, none⟩) hB u1).setCell (p := ⟨B, 2, none⟩) hB u2).setCell (p := ⟨B, 3, none⟩) hB u3).setCell (p := ⟨B, 4, none⟩) hB u4).setCell (p := ⟨B, 5, none⟩) hB u5).setCell (p := ⟨B, 6, none⟩) hB u6).setCell (p := ⟨B, 7, none⟩) hB u7).setCell (p := ⟨B, 8, none⟩) hB u8).setCell (p := ⟨B, 9, none⟩) hB u9).setCell (p := ⟨B, 10, none⟩) hB u10).setCell (p := ⟨B, 11, none⟩) hB u11)
  have hkk : Kept (fun j => j = B) w (set12 w B u0 u1 u2 u3 u4 u5 u6 u7 u8 u9 u10 u11) := by
    unfold set12
    exact (((((((((((((Kept.refl (fun j => j = B) w).setCell (p := ⟨B, 0, none⟩) (.inl rfl) u0).setCell (p := ⟨B, 1, none⟩) (.inl rfl) u1).setCell (p := ⟨B, 2, none⟩) (.inl rfl) u2).setCell (p := ⟨B, 3, none⟩) (.inl rfl) u3).setCell (p := ⟨B, 4, none⟩) (.inl rfl) u4).setCell (p := ⟨B, 5, none⟩) (.inl rfl) u5).setCell (p := ⟨B, 6, none⟩) (.inl rfl) u6).setCell (p := ⟨B, 7, none⟩) (.inl rfl) u7).setCell (p := ⟨B, 8, none⟩) (.inl rfl) u8).setCell (p := ⟨B, 9, none⟩) (.inl rfl) u9).setCell (p := ⟨B, 10, none⟩) (.inl rfl) u10).setCell (p := ⟨B, 11, none⟩) (.inl rfl) u11)
  exact ⟨hz.cell 0 rfl, hz.cell 1 rfl, hz.cell 2 rfl, hz.cell 3 rfl, hz.cell 4 rfl, hz.cell 5 rfl, hz.cell 6 rfl, hz.cell 7 rfl, hz.cell 8 rfl, hz.cell 9 rfl, hz.cell 10 rfl, hz.cell 11 rfl, hbb, hkk⟩
end Go.Proofs.YtllbngopfganjaaGreatDoor.Nd
end

section
namespace Go.Proofs.YtllbngopfganjaaGreatDoor.Nd
open Go.RowKit Go.Cor

theorem below_new16 (w : World) (o : Obj) : Below w.heap.size w (w.alloc o) := (Below.refl _ w).alloc (Nat.le_refl _) o
theorem below_drewN16 {B : Nat} {w w' : World} (h : Below B w w') (n : Nat) : Below B w (w'.drewN n) := ⟨h.os, h.tape, h.output, h.size, h.block⟩
set_option maxRecDepth 100000 in
set_option maxHeartbeats 2000000 in
theorem own_f (fr tt kd vo li : Int) (id : Nat) (co : Int) (has : Bool) (key ck : Nat) (gn : Bool) (md : List UInt8) (x : Option Addr) (L c : Nat) (w : World) (hv : IsB w (.slice x L c) md) (hl : md.length ≤ 1099511627776) :
    Calls Tryz.prog 44 #[.agg #[.int .i64 fr, .int .i64 tt, .int .i64 kd, .int .i64 vo, .int .i64 li, .int .u64 (id : Int), .int .i64 co, .bool has, .int .u64 (key : Int), .int .u32 (ck : Int), .bool gn, .slice x L c]] w fun e w' => ∃ z q, e = .returned (.agg #[.int .i64 fr, .int .i64 tt, .int .i64 kd, .int .i64 vo, .int .i64 li, .int .u64 (id : Int), .int .i64 co, .bool has, .int .u64 (key : Int), .int .u32 (ck : Int), .bool gn, .slice z L q]) ∧ IsF w' (.slice z L q) md ∧ (∀ b, liesB (.slice z L q) md b → w.heap.size ≤ b) ∧ Below w.heap.size w w' := by
  have hM : md.length = L := by obtain ⟨a, cp, e, _⟩ := hv; cases e; rfl
  have hX := (Blk.new w #[.int .i64 fr, .int .i64 tt, .int .i64 kd, .int .i64 vo, .int .i64 li, .int .u64 (id : Int), .int .i64 co, .bool has, .int .u64 (key : Int), .int .u32 (ck : Int), .bool gn, .slice x L c] 45).alloc (.cells #[.int .i64 0, .int .i64 0, .int .i64 0, .int .i64 0, .int .i64 0, .int .u64 0, .int .i64 0, .bool false, .int .u64 0, .int .u32 0, .bool false, .slice none 0 0] 45)
  have hZ := Blk.new (w.alloc (.cells #[.int .i64 fr, .int .i64 tt, .int .i64 kd, .int .i64 vo, .int .i64 li, .int .u64 (id : Int), .int .i64 co, .bool has, .int .u64 (key : Int), .int .u32 (ck : Int), .bool gn, .slice x L c] 45)) #[.int .i64 0, .int .i64 0, .int .i64 0, .int .i64 0, .int .i64 0, .int .u64 0, .int .i64 0, .bool false, .int .u64 0, .int .u32 0, .bool false, .slice none 0 0] 45
  rw [show (w.alloc (.cells #[.int .i64 fr, .int .i64 tt, .int .i64 kd, .int .i64 vo, .int .i64 li, .int .u64 (id : Int), .int .i64 co, .bool has, .int .u64 (key : Int), .int .u32 (ck : Int), .bool gn, .slice x L c] 45)).heap.size = w.heap.size + 1 by simp] at hZ
  have hB := ((Below.refl w.heap.size w).alloc (Nat.le_refl _) (.cells #[.int .i64 fr, .int .i64 tt, .int .i64 kd, .int .i64 vo, .int .i64 li, .int .u64 (id : Int), .int .i64 co, .bool has, .int .u64 (key : Int), .int .u32 (ck : Int), .bool gn, .slice x L c] 45)).alloc (by simp) (.cells #[.int .i64 0, .int .i64 0, .int .i64 0, .int .i64 0, .int .i64 0, .int .u64 0, .int .i64 0, .bool false, .int .u64 0, .int .u32 0, .bool false, .slice none 0 0] 45)
  have HC := Lib.hid (clone_S (.slice x L c) md ((w.alloc (.cells #[.int .i64 fr, .int .i64 tt, .int .i64 kd, .int .i64 vo, .int .i64 li, .int .u64 (id : Int), .int .i64 co, .bool has, .int .u64 (key : Int), .int .u32 (ck : Int), .bool gn, .slice x L c] 45)).alloc (.cells #[.int .i64 0, .int .i64 0, .int .i64 0, .int .i64 0, .int .i64 0, .int .u64 0, .int .i64 0, .bool false, .int .u64 0, .int .u32 0, .bool false, .slice none 0 0] 45)) L (hv.mono hB (Nat.le_refl _)) hl hM)
  obtain ⟨w2, hw2⟩ : ∃ z, ((w.alloc (.cells #[.int .i64 fr, .int .i64 tt, .int .i64 kd, .int .i64 vo, .int .i64 li, .int .u64 (id : Int), .int .i64 co, .bool has, .int .u64 (key : Int), .int .u32 (ck : Int), .bool gn, .slice x L c] 45)).alloc (.cells #[.int .i64 0, .int .i64 0, .int .i64 0, .int .i64 0, .int .i64 0, .int .u64 0, .int .i64 0, .bool false, .int .u64 0, .int .u32 0, .bool false, .slice none 0 0] 45)) = z := ⟨_, rfl⟩
  have hs2 : w2.heap.size = w.heap.size + 1 + 1 := by rw [← hw2]; simp
  rw [hw2] at hX hZ hB HC
  have p11 := hX.cell 11 rfl
  have HW2 := Lib.hid hw2
  have HX := Lib.hid hX
  have HZ := Lib.hid hZ
  have HB := Lib.hid hB
  have HM := Lib.hid hM
  have HS2 := Lib.hid hs2
  clear hv hl hM hX hZ hB hw2 hs2
  go_enter Tryz.func44, Tryz.ntmps44
  go_upto_region 1 with fail
  rw [HW2.out]
  go_wp2_with fail
  refine HC.out.mono ?_
  rintro e w4 ⟨z, q, rfl, hown, hb4⟩
  have hX4 := HX.out.below hb4 HX.out.lt
  have hZ4 := HZ.out.below hb4 HZ.out.lt
  have hB4 := HB.out.trans (hb4.mono HB.out.size)
  have hI4 := IsF.own hown HM.out.symm
  have hlo : ∀ b, (Value.slice z L q).ownBlock = some b → w.heap.size + 1 + 1 ≤ b := fun b e => by have := (hown.lt b e).1; have := HS2.out; omega
  clear p11
  have q11 := hX4.cell 11 rfl
  have qf := fun j => hX4.free j
  have hX5 := hX4.set 11 (.slice z L q)
  simp at hX5
  have hZ5 := hZ4.other (a := ⟨w.heap.size, 11, none⟩) (by simp) (.slice z L q)
  have hB5 := hB4.setCell (p := ⟨w.heap.size, 11, none⟩) (by simp) (.slice z L q)
  have hI5 := hI4.kept ((Kept.refl (fun j => j = w.heap.size) w4).setCell (p := ⟨w.heap.size, 11, none⟩) (.inl rfl) (.slice z L q)) (fun b hb e => by have := hlo b hb.2; omega)
  obtain ⟨w5, hw5⟩ : ∃ w5, w4.setCell ⟨w.heap.size, 11, none⟩ (.slice z L q) = w5 := ⟨_, rfl⟩
  rw [hw5] at hX5 hZ5 hB5 hI5
  go_upto_region 2 with fail
  try rw [hw5]
  have HX5 := Lib.hid hX5
  have HZ5 := Lib.hid hZ5
  have HB5 := Lib.hid hB5
  have HI5 := Lib.hid hI5
  have HLO := Lib.hid hlo
  have HF := fin12 hZ5 hB5 (by omega) (.int .i64 fr) (.int .i64 tt) (.int .i64 kd) (.int .i64 vo) (.int .i64 li) (.int .u64 (id : Int)) (.int .i64 co) (.bool has) (.int .u64 (key : Int)) (.int .u32 (ck : Int)) (.bool gn) (.slice z L q)
  unfold set12 at HF
  have HF := Lib.hid HF
  clear hX4 hZ4 hB4 hI4 hlo q11 qf hX5 hZ5 hB5 hI5 hw5 hown hb4
  have p0 := HX5.out.cell 0 rfl
  have p1 := HX5.out.cell 1 rfl
  have p2 := HX5.out.cell 2 rfl
  have p3 := HX5.out.cell 3 rfl
  have p4 := HX5.out.cell 4 rfl
  have p5 := HX5.out.cell 5 rfl
  have p6 := HX5.out.cell 6 rfl
  have p7 := HX5.out.cell 7 rfl
  have p8 := HX5.out.cell 8 rfl
  have p9 := HX5.out.cell 9 rfl
  have p10 := HX5.out.cell 10 rfl
  have p11 := HX5.out.cell 11 rfl
  have z0 := HZ5.out.cell 0 rfl
  have z1 := HZ5.out.cell 1 rfl
  have z2 := HZ5.out.cell 2 rfl
  have z3 := HZ5.out.cell 3 rfl
  have z4 := HZ5.out.cell 4 rfl
  have z5 := HZ5.out.cell 5 rfl
  have z6 := HZ5.out.cell 6 rfl
  have z7 := HZ5.out.cell 7 rfl
  have z8 := HZ5.out.cell 8 rfl
  have z9 := HZ5.out.cell 9 rfl
  have z10 := HZ5.out.cell 10 rfl
  have z11 := HZ5.out.cell 11 rfl
  have zf := fun j => HZ5.out.free j
  go_wp2
  obtain ⟨j0, j1, j2, j3, j4, j5, j6, j7, j8, j9, j10, j11, jb, jk⟩ := HF.out
  refine bodyPost_ret (v := .agg #[.int .i64 fr, .int .i64 tt, .int .i64 kd, .int .i64 vo, .int .i64 li, .int .u64 (id : Int), .int .i64 co, .bool has, .int .u64 (key : Int), .int .u32 (ck : Int), .bool gn, .slice z L q]) (by simp [results, Tryz.results44, go_sem, j0, j1, j2, j3, j4, j5, j6, j7, j8, j9, j10, j11]) rfl ⟨z, q, rfl, HI5.out.kept jk (fun b hb e => by have := HLO.out b hb.2; omega), fun b hb => by have := HLO.out b hb.2; omega, jb⟩
set_option maxRecDepth 100000 in
set_option maxHeartbeats 1000000 in
theorem onew_at (most : Int) (w : World) (h : 1 ≤ most ∧ most ≤ 4096) :
    Calls Tryz.prog 17 #[.int .i64 most] w fun e w' => ∃ g, w.heap.size ≤ g ∧ e = .returned (.tuple #[.pointer (some ⟨g, 0, none⟩), .nilIface]) ∧ (∃ b, w.heap.size ≤ b ∧ TbAt w' g b most []) ∧ Below w.heap.size w w' := by
  have h1 : ¬ most < 1 := by omega
  have h2 : ¬ most > 4096 := by omega
  have hmm := @run_makeMap Tryz.prog
  have HB := Lib.hid (((Below.refl w.heap.size w).alloc (Nat.le_refl _) (.map #[] 0)).alloc (by simp) (.cells #[.int .i64 most, .map (some w.heap.size)] 97))
  have HX := Lib.hid (Blk.new (w.alloc (.map #[] 0)) #[.int .i64 most, .map (some w.heap.size)] 97)
  have HT := Lib.hid ((TabAt.made w).kept (T := fun _ => False) (Kept.of_below (below_new16 (w.alloc (.map #[] 0)) (.cells #[.int .i64 most, .map (some w.heap.size)] 97)) (Nat.le_refl _)) (fun h => h))
  clear h
  go_enter Tryz.func17, Tryz.ntmps17
  go_wp2
  go_ret2
  exact ⟨w.heap.size + 1, by omega, rfl, ⟨w.heap.size, Nat.le_refl _, ⟨by simpa using HX.out, by omega, HT.out, fun x hx => by cases hx⟩⟩, HB.out⟩
theorem onew_tb (most : Int) (w : World) (h : 1 ≤ most ∧ most ≤ 4096) :
    Calls Tryz.prog 17 #[.int .i64 most] w fun e w' => ∃ g S, e = .returned (.tuple #[.pointer (some ⟨g, 0, none⟩), .nilIface]) ∧ Tb w' w.heap.size g S most [] ∧ Below w.heap.size w w' := by
  refine (onew_at most w h).mono ?_
  rintro e w' ⟨g, hg, rfl, ⟨b, hb, ht⟩, hB⟩
  refine ⟨g, tmem g b [], rfl, ⟨b, [], ht, rfl, ⟨h.1, h.2, by have := h.1; simp; omega⟩, fun m hm => (by cases hm), fun k hk => hk, fun k hk => ⟨?_, ht.lt hk⟩⟩, hB⟩
  rcases hk with rfl | rfl | ⟨x, hx, _⟩
  · exact hg
  · exact hb
  · cases hx
set_option maxRecDepth 100000 in
set_option maxHeartbeats 1000000 in
theorem oroom_at {w : World} {g b : Nat} {most : Int} {l : List (Msg × Value)} (h : TbAt w g b most l) : Calls Tryz.prog 24 #[.pointer (some ⟨g, 0, none⟩)] w fun e w' => e = .returned (.bool (decide ((l.length : Int) < most))) ∧ Below w.heap.size w w' := by
  have k0 : w.cell? ⟨g, 0, none⟩ = some (.int .i64 most) := h.tblk.cell 0 rfl
  have k1 : w.cell? ⟨g, 1, none⟩ = some (.map (some b)) := h.tblk.cell 1 rfl
  have hlen := fun (n : Nat) ty => (show (Builtin.len_ #[95] ty #[.map (some b)]).run Tryz.prog (w.drewN n) = .ok (.int .i64 (l.length : Int)) (w.drewN n) from TabAt.len (w := w.drewN n) (h.tmap.kept (T := fun _ => False) (Kept.of_below (below_drewN16 (Below.refl w.heap.size w) n) (Nat.le_refl _)) (fun h => h)) ty)
  obtain ⟨D, hD⟩ : ∃ D, decide ((l.length : Int) < most) = D := ⟨_, rfl⟩
  obtain ⟨N, hN⟩ : ∃ N, l.length = N := ⟨_, rfl⟩
  rw [hN] at hlen hD
  rw [hN, hD]
  have HN := Lib.hid hN
  clear h hN
  go_enter Tryz.func24, Tryz.ntmps24
  go_wp2
  go_quiet (fail)
  go_wp2
  go_ret
  exact ⟨rfl, below_drewN16 (Below.refl _ _) nq⟩
theorem oroom_any {B g : Nat} {S : Nat → Prop} {most : Int} {L : List Msg} (w : World) (h : Tb w B g S most L) : Calls Tryz.prog 24 #[.pointer (some ⟨g, 0, none⟩)] w fun e w' => e = .returned (.bool (decide ((L.length : Int) < most))) ∧ Below w.heap.size w w' := by
  obtain ⟨b, l, h1, rfl, _⟩ := h
  rw [List.length_map]
  exact oroom_at h1

end Go.Proofs.YtllbngopfganjaaGreatDoor.Nd
end

section
namespace Go.Proofs.YtllbngopfganjaaGreatDoor.Nd
open Go.RowKit Go.Cor

set_option maxRecDepth 100000 in
set_option maxHeartbeats 2000000 in
theorem ofind_none {w : World} {g b : Nat} {most : Int} {l : List (Msg × Value)} (h : TbAt w g b most l) (a : Int) (q : Nat) (ha : wfI a) (hq : wfU q) (hn : lookT a q l = none) :
    Calls Tryz.prog 23 #[.pointer (some ⟨g, 0, none⟩), .int .i64 a, .int .u64 (q : Int)] w fun e w' => e = .returned (.tuple #[mval mz (.slice none 0 0), err 6]) ∧ Below w.heap.size w w' := by
  have hb0 := below_new16 w (.cells #[.int .i64 0, .int .i64 0, .int .i64 0, .int .i64 0, .int .i64 0, .int .u64 0, .int .i64 0, .bool false, .int .u64 0, .int .u32 0, .bool false, .slice none 0 0] 45)
  have hx := Blk.new w #[.int .i64 0, .int .i64 0, .int .i64 0, .int .i64 0, .int .i64 0, .int .u64 0, .int .i64 0, .bool false, .int .u64 0, .int .u32 0, .bool false, .slice none 0 0] 45
  have ht1 := h.below hb0 (Nat.le_refl _)
  obtain ⟨W1, hW1⟩ : ∃ z, (w.alloc (.cells #[.int .i64 0, .int .i64 0, .int .i64 0, .int .i64 0, .int .i64 0, .int .u64 0, .int .i64 0, .bool false, .int .u64 0, .int .u32 0, .bool false, .slice none 0 0] 45)) = z := ⟨_, rfl⟩
  have hs1 : W1.heap.size = w.heap.size + 1 := by rw [← hW1]; simp
  rw [hW1] at hb0 hx ht1
  have k1 : W1.cell? ⟨g, 1, none⟩ = some (.map (some b)) := ht1.tblk.cell 1 rfl
  have hlook := ht1.tmap.look ha hq
  rw [hn] at hlook
  have hx2 := hx.alloc (.cells #[.int .i64 0, .int .i64 0, .int .i64 0, .int .i64 0, .int .i64 0, .int .u64 0, .int .i64 0, .bool false, .int .u64 0, .int .u32 0, .bool false, .slice none 0 0] 45)
  have hb2 := hb0.alloc hb0.size (.cells #[.int .i64 0, .int .i64 0, .int .i64 0, .int .i64 0, .int .i64 0, .int .u64 0, .int .i64 0, .bool false, .int .u64 0, .int .u32 0, .bool false, .slice none 0 0] 45)
  obtain ⟨W2, hW2⟩ : ∃ z, W1.alloc (.cells #[.int .i64 0, .int .i64 0, .int .i64 0, .int .i64 0, .int .i64 0, .int .u64 0, .int .i64 0, .bool false, .int .u64 0, .int .u32 0, .bool false, .slice none 0 0] 45) = z := ⟨_, rfl⟩
  rw [hW2] at hx2 hb2
  have HF := fin12 hx2 hb2 (Nat.le_refl _) (.int .i64 0) (.int .i64 0) (.int .i64 0) (.int .i64 0) (.int .i64 0) (.int .u64 0) (.int .i64 0) (.bool false) (.int .u64 0) (.int .u32 0) (.bool false) (.slice none 0 0)
  unfold set12 at HF
  have HF := Lib.hid HF
  have HX := Lib.hid hx2
  have HW1 := Lib.hid hW1
  have HW2 := Lib.hid hW2
  have hl2 : (Instr.lookup 95 (.map (some b)) (.agg #[.int .i64 a, .int .u64 (q : Int)]) true).run Tryz.prog W1 = .ok (.tuple #[.agg #[.int .i64 0, .int .i64 0, .int .i64 0, .int .i64 0, .int .i64 0, .int .u64 0, .int .i64 0, .bool false, .int .u64 0, .int .u32 0, .bool false, .slice none 0 0], .bool false]) W1 := hlook
  clear hb0 hx ht1 hx2 hb2 hW1 hW2 hlook h ha hq hn hs1
  go_enter Tryz.func23, Tryz.ntmps23
  go_upto_region 3 with fail
  rw [HW1.out]
  go_upto_region 4 with fail
  rw [HW2.out]
  have z0 := HX.out.cell 0 rfl
  have z1 := HX.out.cell 1 rfl
  have z2 := HX.out.cell 2 rfl
  have z3 := HX.out.cell 3 rfl
  have z4 := HX.out.cell 4 rfl
  have z5 := HX.out.cell 5 rfl
  have z6 := HX.out.cell 6 rfl
  have z7 := HX.out.cell 7 rfl
  have z8 := HX.out.cell 8 rfl
  have z9 := HX.out.cell 9 rfl
  have z10 := HX.out.cell 10 rfl
  have z11 := HX.out.cell 11 rfl
  have zf := fun j => HX.out.free j
  go_wp2
  obtain ⟨j0, j1, j2, j3, j4, j5, j6, j7, j8, j9, j10, j11, jb, jk⟩ := HF.out
  refine bodyPost_ret (v := .tuple #[.agg #[.int .i64 0, .int .i64 0, .int .i64 0, .int .i64 0, .int .i64 0, .int .u64 0, .int .i64 0, .bool false, .int .u64 0, .int .u32 0, .bool false, .slice none 0 0], err 6]) (by simp [results, Tryz.results23, go_sem, j0, j1, j2, j3, j4, j5, j6, j7, j8, j9, j10, j11]) rfl ⟨rfl, jb⟩
set_option maxRecDepth 100000 in
set_option maxHeartbeats 2000000 in
theorem ofind_f (fr tt kd vo li : Int) (id : Nat) (co : Int) (has : Bool) (key ck : Nat) (gn : Bool) (md : List UInt8) (x : Option Addr) (L c : Nat) {w : World} {g b : Nat} {most : Int} {l : List (Msg × Value)} (h : TbAt w g b most l) (a : Int) (q : Nat) (ha : wfI a) (hq : wfU q) (hn : lookT a q l = some (⟨fr, tt, kd, vo, li, id, co, has, ⟨key, ck, gn, md⟩⟩, .slice x L c)) (hl : md.length ≤ 1099511627776) :
    Calls Tryz.prog 23 #[.pointer (some ⟨g, 0, none⟩), .int .i64 a, .int .u64 (q : Int)] w fun e w' => ∃ z qq, e = .returned (.tuple #[.agg #[.int .i64 fr, .int .i64 tt, .int .i64 kd, .int .i64 vo, .int .i64 li, .int .u64 (id : Int), .int .i64 co, .bool has, .int .u64 (key : Int), .int .u32 (ck : Int), .bool gn, .slice z L qq], .nilIface]) ∧ IsF w' (.slice z L qq) md ∧ (∀ b, liesB (.slice z L qq) md b → w.heap.size ≤ b) ∧ Below w.heap.size w w' := by
  have hv := (h.tl _ (lookT_some hn).1).1
  have hb0 := below_new16 w (.cells #[.int .i64 0, .int .i64 0, .int .i64 0, .int .i64 0, .int .i64 0, .int .u64 0, .int .i64 0, .bool false, .int .u64 0, .int .u32 0, .bool false, .slice none 0 0] 45)
  have hx := Blk.new w #[.int .i64 0, .int .i64 0, .int .i64 0, .int .i64 0, .int .i64 0, .int .u64 0, .int .i64 0, .bool false, .int .u64 0, .int .u32 0, .bool false, .slice none 0 0] 45
  have ht1 := h.below hb0 (Nat.le_refl _)
  obtain ⟨W1, hW1⟩ : ∃ z, (w.alloc (.cells #[.int .i64 0, .int .i64 0, .int .i64 0, .int .i64 0, .int .i64 0, .int .u64 0, .int .i64 0, .bool false, .int .u64 0, .int .u32 0, .bool false, .slice none 0 0] 45)) = z := ⟨_, rfl⟩
  have hs1 : W1.heap.size = w.heap.size + 1 := by rw [← hW1]; simp
  rw [hW1] at hb0 hx ht1
  have k1 : W1.cell? ⟨g, 1, none⟩ = some (.map (some b)) := ht1.tblk.cell 1 rfl
  have hlook := ht1.tmap.look ha hq
  rw [hn] at hlook
  have hx2 := hx.alloc (.cells #[.int .i64 fr, .int .i64 tt, .int .i64 kd, .int .i64 vo, .int .i64 li, .int .u64 (id : Int), .int .i64 co, .bool has, .int .u64 (key : Int), .int .u32 (ck : Int), .bool gn, .slice x L c] 45)
  have hb2 := hb0.alloc hb0.size (.cells #[.int .i64 fr, .int .i64 tt, .int .i64 kd, .int .i64 vo, .int .i64 li, .int .u64 (id : Int), .int .i64 co, .bool has, .int .u64 (key : Int), .int .u32 (ck : Int), .bool gn, .slice x L c] 45)
  have hy2 := Blk.new W1 #[.int .i64 fr, .int .i64 tt, .int .i64 kd, .int .i64 vo, .int .i64 li, .int .u64 (id : Int), .int .i64 co, .bool has, .int .u64 (key : Int), .int .u32 (ck : Int), .bool gn, .slice x L c] 45
  rw [hs1] at hy2
  obtain ⟨W2, hW2⟩ : ∃ z, W1.alloc (.cells #[.int .i64 fr, .int .i64 tt, .int .i64 kd, .int .i64 vo, .int .i64 li, .int .u64 (id : Int), .int .i64 co, .bool has, .int .u64 (key : Int), .int .u32 (ck : Int), .bool gn, .slice x L c] 45) = z := ⟨_, rfl⟩
  rw [hW2] at hx2 hb2 hy2
  have HO := Lib.hid (own_f fr tt kd vo li id co has key ck gn md x L c W2 (hv.mono hb2 (Nat.le_refl _)) hl)
  have HX := Lib.hid hx2
  have HY := Lib.hid hy2
  have HB := Lib.hid hb2
  have HW1 := Lib.hid hW1
  have HW2 := Lib.hid hW2
  have HS1 := Lib.hid hs1
  have hl2 : (Instr.lookup 95 (.map (some b)) (.agg #[.int .i64 a, .int .u64 (q : Int)]) true).run Tryz.prog W1 = .ok (.tuple #[.agg #[.int .i64 fr, .int .i64 tt, .int .i64 kd, .int .i64 vo, .int .i64 li, .int .u64 (id : Int), .int .i64 co, .bool has, .int .u64 (key : Int), .int .u32 (ck : Int), .bool gn, .slice x L c], .bool true]) W1 := hlook
  clear hb0 hx ht1 hx2 hb2 hy2 hW1 hW2 hlook h ha hq hn hv hl hs1
  go_enter Tryz.func23, Tryz.ntmps23
  go_upto_region 3 with fail
  rw [HW1.out]
  go_upto_region 4 with fail
  rw [HW2.out, HS1.out]
  have r := HY.out
  have p0 := r.cell 0 rfl
  have p1 := r.cell 1 rfl
  have p2 := r.cell 2 rfl
  have p3 := r.cell 3 rfl
  have p4 := r.cell 4 rfl
  have p5 := r.cell 5 rfl
  have p6 := r.cell 6 rfl
  have p7 := r.cell 7 rfl
  have p8 := r.cell 8 rfl
  have p9 := r.cell 9 rfl
  have p10 := r.cell 10 rfl
  have p11 := r.cell 11 rfl
  clear r
  go_wp2_with fail
  refine HO.out.mono ?_
  rintro e w3 ⟨z, qq, rfl, hI3, hlo3, hb3⟩
  have hx3 := HX.out.below hb3 HX.out.lt
  have hbb := HB.out.trans (hb3.mono HB.out.size)
  have HF := fin12 hx3 hbb (Nat.le_refl _) (.int .i64 fr) (.int .i64 tt) (.int .i64 kd) (.int .i64 vo) (.int .i64 li) (.int .u64 (id : Int)) (.int .i64 co) (.bool has) (.int .u64 (key : Int)) (.int .u32 (ck : Int)) (.bool gn) (.slice z L qq)
  unfold set12 at HF
  have HF := Lib.hid HF
  have HI := Lib.hid hI3
  have HSZ := Lib.hid HX.out.lt
  have HLO := Lib.hid hlo3
  have HX3 := Lib.hid hx3
  clear p0 p1 p2 p3 p4 p5 p6 p7 p8 p9 p10 p11 hx3 hbb hI3 hlo3 hb3
  have z0 := HX3.out.cell 0 rfl
  have z1 := HX3.out.cell 1 rfl
  have z2 := HX3.out.cell 2 rfl
  have z3 := HX3.out.cell 3 rfl
  have z4 := HX3.out.cell 4 rfl
  have z5 := HX3.out.cell 5 rfl
  have z6 := HX3.out.cell 6 rfl
  have z7 := HX3.out.cell 7 rfl
  have z8 := HX3.out.cell 8 rfl
  have z9 := HX3.out.cell 9 rfl
  have z10 := HX3.out.cell 10 rfl
  have z11 := HX3.out.cell 11 rfl
  have zf := fun j => HX3.out.free j
  go_wp2
  obtain ⟨j0, j1, j2, j3, j4, j5, j6, j7, j8, j9, j10, j11, jb, jk⟩ := HF.out
  refine bodyPost_ret (v := .tuple #[.agg #[.int .i64 fr, .int .i64 tt, .int .i64 kd, .int .i64 vo, .int .i64 li, .int .u64 (id : Int), .int .i64 co, .bool has, .int .u64 (key : Int), .int .u32 (ck : Int), .bool gn, .slice z L qq], .nilIface]) (by simp [results, Tryz.results23, go_sem, j0, j1, j2, j3, j4, j5, j6, j7, j8, j9, j10, j11]) rfl ⟨z, qq, rfl, HI.out.kept jk (fun b hb e => by have := HLO.out b hb; have := HSZ.out; omega), fun b hb => by have := HLO.out b hb; have := HSZ.out; omega, jb⟩
/-- What Find tells: the error's number, the message. -/
def findK (a : Int) (q : Nat) (l : List Msg) : Nat := if findP a q l < 0 then 6 else 0
def findM (a : Int) (q : Nat) (l : List Msg) : Msg := if findP a q l < 0 then mz else l.getD (findP a q l).toNat mz
theorem ofind_any {B g : Nat} {S : Nat → Prop} {most : Int} {L : List Msg} (w : World) (h : Tb w B g S most L) (a : Int) (q : Nat) (ha : wfI a) (hq : wfU q) :
    Calls Tryz.prog 23 #[.pointer (some ⟨g, 0, none⟩), .int .i64 a, .int .u64 (q : Int)] w fun e w' => ∃ z n c, e = .returned (.tuple #[mval (findM a q L) (.slice z n c), cerr (findK a q L)]) ∧ IsF w' (.slice z n c) (findM a q L).n.data ∧ (∀ b, liesB (.slice z n c) (findM a q L).n.data b → w.heap.size ≤ b) ∧ Below w.heap.size w w' := by
  obtain ⟨b, l, h1, rfl, h3, h4, h5, h6⟩ := h
  cases hn : lookT a q l with
  | none =>
    have hf := lookT_none.1 hn
    rw [show findM a q (l.map (·.1)) = mz by unfold findM; rw [if_pos hf], show findK a q (l.map (·.1)) = 6 by unfold findK; rw [if_pos hf], cerr_pos (by decide)]
    refine (ofind_none h1 a q ha hq hn).mono ?_
    rintro e w' ⟨rfl, hb⟩
    exact ⟨none, 0, 0, rfl, IsF.nil _, fun b hb => absurd rfl hb.1, hb⟩
  | some x =>
    obtain ⟨i, hi, hx⟩ := lookT_at hn
    obtain ⟨hm, _⟩ := lookT_some hn
    obtain ⟨_, ⟨y, n, c, hy⟩, _⟩ := h1.tl x hm
    have hok := h4 x.1 (List.mem_map.2 ⟨x, hm, rfl⟩)
    have hlen := mcheck_len hok.1
    rw [show findM a q (l.map (·.1)) = x.1 by
        unfold findM
        rw [hi, if_neg (by omega)]
        simp [List.getD, hx], show findK a q (l.map (·.1)) = 0 by unfold findK; rw [hi, if_neg (by omega)], cerr_0]
    obtain ⟨⟨fr, tt, kd, vo, li, id, co, has, key, ck, gn, md⟩, xv⟩ := x
    cases hy
    refine (ofind_f fr tt kd vo li id co has key ck gn md y n c h1 a q ha hq hn (by have : md.length ≤ 4096 := hlen; omega)).mono ?_
    rintro e w' ⟨z, qq, rfl, k1, k2, k3⟩
    exact ⟨z, n, qq, rfl, k1, k2, k3⟩

end Go.Proofs.YtllbngopfganjaaGreatDoor.Nd
end

section
namespace Go.Proofs.YtllbngopfganjaaGreatDoor.Nd
open Go.RowKit Go.Cor

theorem within_yes (n lo hi : Int) (w : World) (h1 : lo ≤ n) (h2 : n ≤ hi) :
    Calls Tryz.prog 66 #[.int .i64 n, .int .i64 lo, .int .i64 hi] w fun e w' => e = .returned (.bool true) ∧ w = w' := by
  go_enter Tryz.func66, Tryz.ntmps66
  go_wp2
  go_ret
  exact ⟨rfl, rfl⟩
theorem within_no (n lo hi : Int) (w : World) (h : ¬ (lo ≤ n ∧ n ≤ hi)) :
    Calls Tryz.prog 66 #[.int .i64 n, .int .i64 lo, .int .i64 hi] w fun e w' => e = .returned (.bool false) ∧ w = w' := by
  by_cases h1 : lo ≤ n
  · have h2 : ¬ n ≤ hi := fun h2 => h ⟨h1, h2⟩
    go_enter Tryz.func66, Tryz.ntmps66
    go_wp2
    go_ret
    exact ⟨rfl, rfl⟩
  · clear h
    go_enter Tryz.func66, Tryz.ntmps66
    go_wp2
    go_ret
    exact ⟨rfl, rfl⟩
set_option maxRecDepth 100000 in
set_option maxHeartbeats 4000000 in
theorem can_no (m : Msg) (v : Value) (w : World) (hv : IsB w v m.n.data) (h : ¬ m.good) :
    Calls Tryz.prog 41 #[mval m v] w fun e w' => e = .returned (.bool false) ∧ Below w.heap.size w w' := by
  obtain ⟨fr, tt, kd, vo, li, id, co, has, key, cookie, gone, data⟩ := m
  obtain ⟨L, hL⟩ : ∃ L, data.length = L := ⟨_, rfl⟩
  obtain ⟨x, c, rfl, _, _⟩ := hv.at_len hL
  unfold Msg.good at h
  dsimp only at h
  clear hv hL
  by_cases h14 : kd = 1 ∨ kd = 2 ∨ kd = 3 ∨ kd = 4
  · by_cases h0 : co = 0
    · subst h0
      rcases h14 with rfl | rfl | rfl | rfl
      · have HB := Lib.hid ((Below.refl w.heap.size w).alloc (Nat.le_refl _) (.cells #[.int .i64 fr, .int .i64 tt, .int .i64 1, .int .i64 vo, .int .i64 li, .int .u64 (id : Int), .int .i64 0, .bool has, .int .u64 (key : Int), .int .u32 (cookie : Int), .bool gone, .slice x L c] 45))
        by_cases c0 : 0 ≤ fr ∧ fr ≤ 255
        case neg =>
          go_enter Tryz.func41, Tryz.ntmps41
          go_wp2_with fail
          refine (within_no _ _ _ _ c0).mono ?_
          rintro e w1 ⟨rfl, rfl⟩
          go_wp2
          go_ret
          exact ⟨rfl, HB.out⟩
        by_cases c1 : 0 ≤ tt ∧ tt ≤ 255
        case neg =>
          go_enter Tryz.func41, Tryz.ntmps41
          go_wp2_with fail
          refine (within_yes _ _ _ _ (by omega) (by omega)).mono ?_
          rintro e w1 ⟨rfl, rfl⟩
          go_wp2_with fail
          refine (within_no _ _ _ _ c1).mono ?_
          rintro e w1 ⟨rfl, rfl⟩
          go_wp2
          go_ret
          exact ⟨rfl, HB.out⟩
        by_cases c2 : 1 ≤ vo ∧ vo ≤ 65535
        case neg =>
          go_enter Tryz.func41, Tryz.ntmps41
          go_wp2_with fail
          refine (within_yes _ _ _ _ (by omega) (by omega)).mono ?_
          rintro e w1 ⟨rfl, rfl⟩
          go_wp2_with fail
          refine (within_yes _ _ _ _ (by omega) (by omega)).mono ?_
          rintro e w1 ⟨rfl, rfl⟩
          go_wp2_with fail
          refine (within_no _ _ _ _ c2).mono ?_
          rintro e w1 ⟨rfl, rfl⟩
          go_wp2
          go_ret
          exact ⟨rfl, HB.out⟩
        by_cases c3 : 0 ≤ li ∧ li ≤ 2147483647
        case neg =>
          go_enter Tryz.func41, Tryz.ntmps41
          go_wp2_with fail
          refine (within_yes _ _ _ _ (by omega) (by omega)).mono ?_
          rintro e w1 ⟨rfl, rfl⟩
          go_wp2_with fail
          refine (within_yes _ _ _ _ (by omega) (by omega)).mono ?_
          rintro e w1 ⟨rfl, rfl⟩
          go_wp2_with fail
          refine (within_yes _ _ _ _ (by omega) (by omega)).mono ?_
          rintro e w1 ⟨rfl, rfl⟩
          go_wp2_with fail
          refine (within_no _ _ _ _ c3).mono ?_
          rintro e w1 ⟨rfl, rfl⟩
          go_wp2
          go_ret
          exact ⟨rfl, HB.out⟩
        exact absurd ⟨c0.1, c0.2, c1.1, c1.2, by omega, by omega, by omega, by omega, fun _ => rfl, c2.1, c2.2, c3.1, c3.2⟩ h
      · have HB := Lib.hid ((Below.refl w.heap.size w).alloc (Nat.le_refl _) (.cells #[.int .i64 fr, .int .i64 tt, .int .i64 2, .int .i64 vo, .int .i64 li, .int .u64 (id : Int), .int .i64 0, .bool has, .int .u64 (key : Int), .int .u32 (cookie : Int), .bool gone, .slice x L c] 45))
        by_cases c0 : 0 ≤ fr ∧ fr ≤ 255
        case neg =>
          go_enter Tryz.func41, Tryz.ntmps41
          go_wp2_with fail
          refine (within_no _ _ _ _ c0).mono ?_
          rintro e w1 ⟨rfl, rfl⟩
          go_wp2
          go_ret
          exact ⟨rfl, HB.out⟩
        by_cases c1 : 0 ≤ tt ∧ tt ≤ 255
        case neg =>
          go_enter Tryz.func41, Tryz.ntmps41
          go_wp2_with fail
          refine (within_yes _ _ _ _ (by omega) (by omega)).mono ?_
          rintro e w1 ⟨rfl, rfl⟩
          go_wp2_with fail
          refine (within_no _ _ _ _ c1).mono ?_
          rintro e w1 ⟨rfl, rfl⟩
          go_wp2
          go_ret
          exact ⟨rfl, HB.out⟩
        by_cases c2 : 1 ≤ vo ∧ vo ≤ 65535
        case neg =>
          go_enter Tryz.func41, Tryz.ntmps41
          go_wp2_with fail
          refine (within_yes _ _ _ _ (by omega) (by omega)).mono ?_
          rintro e w1 ⟨rfl, rfl⟩
          go_wp2_with fail
          refine (within_yes _ _ _ _ (by omega) (by omega)).mono ?_
          rintro e w1 ⟨rfl, rfl⟩
          go_wp2_with fail
          refine (within_no _ _ _ _ c2).mono ?_
          rintro e w1 ⟨rfl, rfl⟩
          go_wp2
          go_ret
          exact ⟨rfl, HB.out⟩
        by_cases c3 : 0 ≤ li ∧ li ≤ 2147483647
        case neg =>
          go_enter Tryz.func41, Tryz.ntmps41
          go_wp2_with fail
          refine (within_yes _ _ _ _ (by omega) (by omega)).mono ?_
          rintro e w1 ⟨rfl, rfl⟩
          go_wp2_with fail
          refine (within_yes _ _ _ _ (by omega) (by omega)).mono ?_
          rintro e w1 ⟨rfl, rfl⟩
          go_wp2_with fail
          refine (within_yes _ _ _ _ (by omega) (by omega)).mono ?_
          rintro e w1 ⟨rfl, rfl⟩
          go_wp2_with fail
          refine (within_no _ _ _ _ c3).mono ?_
          rintro e w1 ⟨rfl, rfl⟩
          go_wp2
          go_ret
          exact ⟨rfl, HB.out⟩
        exact absurd ⟨c0.1, c0.2, c1.1, c1.2, by omega, by omega, by omega, by omega, fun _ => rfl, c2.1, c2.2, c3.1, c3.2⟩ h
      · have HB := Lib.hid ((Below.refl w.heap.size w).alloc (Nat.le_refl _) (.cells #[.int .i64 fr, .int .i64 tt, .int .i64 3, .int .i64 vo, .int .i64 li, .int .u64 (id : Int), .int .i64 0, .bool has, .int .u64 (key : Int), .int .u32 (cookie : Int), .bool gone, .slice x L c] 45))
        by_cases c0 : 0 ≤ fr ∧ fr ≤ 255
        case neg =>
          go_enter Tryz.func41, Tryz.ntmps41
          go_wp2_with fail
          refine (within_no _ _ _ _ c0).mono ?_
          rintro e w1 ⟨rfl, rfl⟩
          go_wp2
          go_ret
          exact ⟨rfl, HB.out⟩
        by_cases c1 : 0 ≤ tt ∧ tt ≤ 255
        case neg =>
          go_enter Tryz.func41, Tryz.ntmps41
          go_wp2_with fail
          refine (within_yes _ _ _ _ (by omega) (by omega)).mono ?_
          rintro e w1 ⟨rfl, rfl⟩
          go_wp2_with fail
          refine (within_no _ _ _ _ c1).mono ?_
          rintro e w1 ⟨rfl, rfl⟩
          go_wp2
          go_ret
          exact ⟨rfl, HB.out⟩
        by_cases c2 : 1 ≤ vo ∧ vo ≤ 65535
        case neg =>
          go_enter Tryz.func41, Tryz.ntmps41
          go_wp2_with fail
          refine (within_yes _ _ _ _ (by omega) (by omega)).mono ?_
          rintro e w1 ⟨rfl, rfl⟩
          go_wp2_with fail
          refine (within_yes _ _ _ _ (by omega) (by omega)).mono ?_
          rintro e w1 ⟨rfl, rfl⟩
          go_wp2_with fail
          refine (within_no _ _ _ _ c2).mono ?_
          rintro e w1 ⟨rfl, rfl⟩
          go_wp2
          go_ret
          exact ⟨rfl, HB.out⟩
        by_cases c3 : 0 ≤ li ∧ li ≤ 2147483647
        case neg =>
          go_enter Tryz.func41, Tryz.ntmps41
          go_wp2_with fail
          refine (within_yes _ _ _ _ (by omega) (by omega)).mono ?_
          rintro e w1 ⟨rfl, rfl⟩
          go_wp2_with fail
          refine (within_yes _ _ _ _ (by omega) (by omega)).mono ?_
          rintro e w1 ⟨rfl, rfl⟩
          go_wp2_with fail
          refine (within_yes _ _ _ _ (by omega) (by omega)).mono ?_
          rintro e w1 ⟨rfl, rfl⟩
          go_wp2_with fail
          refine (within_no _ _ _ _ c3).mono ?_
          rintro e w1 ⟨rfl, rfl⟩
          go_wp2
          go_ret
          exact ⟨rfl, HB.out⟩
        exact absurd ⟨c0.1, c0.2, c1.1, c1.2, by omega, by omega, by omega, by omega, fun _ => rfl, c2.1, c2.2, c3.1, c3.2⟩ h
      · have HB := Lib.hid ((Below.refl w.heap.size w).alloc (Nat.le_refl _) (.cells #[.int .i64 fr, .int .i64 tt, .int .i64 4, .int .i64 vo, .int .i64 li, .int .u64 (id : Int), .int .i64 0, .bool has, .int .u64 (key : Int), .int .u32 (cookie : Int), .bool gone, .slice x L c] 45))
        by_cases c0 : 0 ≤ fr ∧ fr ≤ 255
        case neg =>
          go_enter Tryz.func41, Tryz.ntmps41
          go_wp2_with fail
          refine (within_no _ _ _ _ c0).mono ?_
          rintro e w1 ⟨rfl, rfl⟩
          go_wp2
          go_ret
          exact ⟨rfl, HB.out⟩
        by_cases c1 : 0 ≤ tt ∧ tt ≤ 255
        case neg =>
          go_enter Tryz.func41, Tryz.ntmps41
          go_wp2_with fail
          refine (within_yes _ _ _ _ (by omega) (by omega)).mono ?_
          rintro e w1 ⟨rfl, rfl⟩
          go_wp2_with fail
          refine (within_no _ _ _ _ c1).mono ?_
          rintro e w1 ⟨rfl, rfl⟩
          go_wp2
          go_ret
          exact ⟨rfl, HB.out⟩
        by_cases c2 : 1 ≤ vo ∧ vo ≤ 65535
        case neg =>
          go_enter Tryz.func41, Tryz.ntmps41
          go_wp2_with fail
          refine (within_yes _ _ _ _ (by omega) (by omega)).mono ?_
          rintro e w1 ⟨rfl, rfl⟩
          go_wp2_with fail
          refine (within_yes _ _ _ _ (by omega) (by omega)).mono ?_
          rintro e w1 ⟨rfl, rfl⟩
          go_wp2_with fail
          refine (within_no _ _ _ _ c2).mono ?_
          rintro e w1 ⟨rfl, rfl⟩
          go_wp2
          go_ret
          exact ⟨rfl, HB.out⟩
        by_cases c3 : 0 ≤ li ∧ li ≤ 2147483647
        case neg =>
          go_enter Tryz.func41, Tryz.ntmps41
          go_wp2_with fail
          refine (within_yes _ _ _ _ (by omega) (by omega)).mono ?_
          rintro e w1 ⟨rfl, rfl⟩
          go_wp2_with fail
          refine (within_yes _ _ _ _ (by omega) (by omega)).mono ?_
          rintro e w1 ⟨rfl, rfl⟩
          go_wp2_with fail
          refine (within_yes _ _ _ _ (by omega) (by omega)).mono ?_
          rintro e w1 ⟨rfl, rfl⟩
          go_wp2_with fail
          refine (within_no _ _ _ _ c3).mono ?_
          rintro e w1 ⟨rfl, rfl⟩
          go_wp2
          go_ret
          exact ⟨rfl, HB.out⟩
        exact absurd ⟨c0.1, c0.2, c1.1, c1.2, by omega, by omega, by omega, by omega, fun _ => rfl, c2.1, c2.2, c3.1, c3.2⟩ h
    · have hne : (co != 0) = true := bne_iff_ne.2 h0
      clear h
      rcases h14 with rfl | rfl | rfl | rfl
      · have HB := Lib.hid ((Below.refl w.heap.size w).alloc (Nat.le_refl _) (.cells #[.int .i64 fr, .int .i64 tt, .int .i64 1, .int .i64 vo, .int .i64 li, .int .u64 (id : Int), .int .i64 co, .bool has, .int .u64 (key : Int), .int .u32 (cookie : Int), .bool gone, .slice x L c] 45))
        go_enter Tryz.func41, Tryz.ntmps41
        go_wp2
        go_ret
        exact ⟨rfl, HB.out⟩
      · have HB := Lib.hid ((Below.refl w.heap.size w).alloc (Nat.le_refl _) (.cells #[.int .i64 fr, .int .i64 tt, .int .i64 2, .int .i64 vo, .int .i64 li, .int .u64 (id : Int), .int .i64 co, .bool has, .int .u64 (key : Int), .int .u32 (cookie : Int), .bool gone, .slice x L c] 45))
        go_enter Tryz.func41, Tryz.ntmps41
        go_wp2
        go_ret
        exact ⟨rfl, HB.out⟩
      · have HB := Lib.hid ((Below.refl w.heap.size w).alloc (Nat.le_refl _) (.cells #[.int .i64 fr, .int .i64 tt, .int .i64 3, .int .i64 vo, .int .i64 li, .int .u64 (id : Int), .int .i64 co, .bool has, .int .u64 (key : Int), .int .u32 (cookie : Int), .bool gone, .slice x L c] 45))
        go_enter Tryz.func41, Tryz.ntmps41
        go_wp2
        go_ret
        exact ⟨rfl, HB.out⟩
      · have HB := Lib.hid ((Below.refl w.heap.size w).alloc (Nat.le_refl _) (.cells #[.int .i64 fr, .int .i64 tt, .int .i64 4, .int .i64 vo, .int .i64 li, .int .u64 (id : Int), .int .i64 co, .bool has, .int .u64 (key : Int), .int .u32 (cookie : Int), .bool gone, .slice x L c] 45))
        go_enter Tryz.func41, Tryz.ntmps41
        go_wp2
        go_ret
        exact ⟨rfl, HB.out⟩
  by_cases h5 : kd = 5
  · subst h5
    have HB := Lib.hid ((Below.refl w.heap.size w).alloc (Nat.le_refl _) (.cells #[.int .i64 fr, .int .i64 tt, .int .i64 5, .int .i64 vo, .int .i64 li, .int .u64 (id : Int), .int .i64 co, .bool has, .int .u64 (key : Int), .int .u32 (cookie : Int), .bool gone, .slice x L c] 45))
    by_cases c0 : 0 ≤ fr ∧ fr ≤ 255
    case neg =>
      go_enter Tryz.func41, Tryz.ntmps41
      go_wp2_with fail
      refine (within_no _ _ _ _ c0).mono ?_
      rintro e w1 ⟨rfl, rfl⟩
      go_wp2
      go_ret
      exact ⟨rfl, HB.out⟩
    by_cases c1 : 0 ≤ tt ∧ tt ≤ 255
    case neg =>
      go_enter Tryz.func41, Tryz.ntmps41
      go_wp2_with fail
      refine (within_yes _ _ _ _ (by omega) (by omega)).mono ?_
      rintro e w1 ⟨rfl, rfl⟩
      go_wp2_with fail
      refine (within_no _ _ _ _ c1).mono ?_
      rintro e w1 ⟨rfl, rfl⟩
      go_wp2
      go_ret
      exact ⟨rfl, HB.out⟩
    by_cases c2 : 1 ≤ vo ∧ vo ≤ 65535
    case neg =>
      go_enter Tryz.func41, Tryz.ntmps41
      go_wp2_with fail
      refine (within_yes _ _ _ _ (by omega) (by omega)).mono ?_
      rintro e w1 ⟨rfl, rfl⟩
      go_wp2_with fail
      refine (within_yes _ _ _ _ (by omega) (by omega)).mono ?_
      rintro e w1 ⟨rfl, rfl⟩
      go_wp2_with fail
      refine (within_no _ _ _ _ c2).mono ?_
      rintro e w1 ⟨rfl, rfl⟩
      go_wp2
      go_ret
      exact ⟨rfl, HB.out⟩
    by_cases c3 : 0 ≤ li ∧ li ≤ 2147483647
    case neg =>
      go_enter Tryz.func41, Tryz.ntmps41
      go_wp2_with fail
      refine (within_yes _ _ _ _ (by omega) (by omega)).mono ?_
      rintro e w1 ⟨rfl, rfl⟩
      go_wp2_with fail
      refine (within_yes _ _ _ _ (by omega) (by omega)).mono ?_
      rintro e w1 ⟨rfl, rfl⟩
      go_wp2_with fail
      refine (within_yes _ _ _ _ (by omega) (by omega)).mono ?_
      rintro e w1 ⟨rfl, rfl⟩
      go_wp2_with fail
      refine (within_no _ _ _ _ c3).mono ?_
      rintro e w1 ⟨rfl, rfl⟩
      go_wp2
      go_ret
      exact ⟨rfl, HB.out⟩
    by_cases c4 : 0 ≤ co ∧ co ≤ 255
    case neg =>
      go_enter Tryz.func41, Tryz.ntmps41
      go_wp2_with fail
      refine (within_yes _ _ _ _ (by omega) (by omega)).mono ?_
      rintro e w1 ⟨rfl, rfl⟩
      go_wp2_with fail
      refine (within_yes _ _ _ _ (by omega) (by omega)).mono ?_
      rintro e w1 ⟨rfl, rfl⟩
      go_wp2_with fail
      refine (within_yes _ _ _ _ (by omega) (by omega)).mono ?_
      rintro e w1 ⟨rfl, rfl⟩
      go_wp2_with fail
      refine (within_yes _ _ _ _ (by omega) (by omega)).mono ?_
      rintro e w1 ⟨rfl, rfl⟩
      go_wp2_with fail
      refine (within_no _ _ _ _ c4).mono ?_
      rintro e w1 ⟨rfl, rfl⟩
      go_wp2
      go_ret
      exact ⟨rfl, HB.out⟩
    exact absurd ⟨c0.1, c0.2, c1.1, c1.2, c4.1, c4.2, by omega, by omega, fun e => absurd e (by omega), c2.1, c2.2, c3.1, c3.2⟩ h
  have k1 : (kd == 1) = false := beq_eq_false_iff_ne.2 (fun e => h14 (.inl e))
  have k2 : (kd == 2) = false := beq_eq_false_iff_ne.2 (fun e => h14 (.inr (.inl e)))
  have k3 : (kd == 3) = false := beq_eq_false_iff_ne.2 (fun e => h14 (.inr (.inr (.inl e))))
  have k4 : (kd == 4) = false := beq_eq_false_iff_ne.2 (fun e => h14 (.inr (.inr (.inr e))))
  have k5 : (kd == 5) = false := beq_eq_false_iff_ne.2 h5
  clear h h14 h5
  have HB := Lib.hid ((Below.refl w.heap.size w).alloc (Nat.le_refl _) (.cells #[.int .i64 fr, .int .i64 tt, .int .i64 kd, .int .i64 vo, .int .i64 li, .int .u64 (id : Int), .int .i64 co, .bool has, .int .u64 (key : Int), .int .u32 (cookie : Int), .bool gone, .slice x L c] 45))
  go_enter Tryz.func41, Tryz.ntmps41
  go_wp2
  go_ret
  exact ⟨rfl, HB.out⟩
set_option maxRecDepth 100000 in
set_option maxHeartbeats 4000000 in
theorem can_yes (m : Msg) (v : Value) (w : World) (hv : IsB w v m.n.data) (h : m.good) :
    Calls Tryz.prog 41 #[mval m v] w fun e w' => e = .returned (.bool true) ∧ Below w.heap.size w w' := by
  obtain ⟨fr, tt, kd, vo, li, id, co, has, key, cookie, gone, data⟩ := m
  obtain ⟨L, hL⟩ : ∃ L, data.length = L := ⟨_, rfl⟩
  obtain ⟨x, c, rfl, _, _⟩ := hv.at_len hL
  unfold Msg.good at h
  dsimp only at h
  clear hv hL
  obtain ⟨g1, g2, g3, g4, g5, g6, g7, g8, g9, g10, g11, g12, g13⟩ := h
  have hk : kd = 1 ∨ kd = 2 ∨ kd = 3 ∨ kd = 4 ∨ kd = 5 := by omega
  rcases hk with rfl | rfl | rfl | rfl | rfl
  · have h0 : co = 0 := g9 (by omega)
    subst h0
    clear g9
    have HB := Lib.hid ((Below.refl w.heap.size w).alloc (Nat.le_refl _) (.cells #[.int .i64 fr, .int .i64 tt, .int .i64 1, .int .i64 vo, .int .i64 li, .int .u64 (id : Int), .int .i64 0, .bool has, .int .u64 (key : Int), .int .u32 (cookie : Int), .bool gone, .slice x L c] 45))
    go_enter Tryz.func41, Tryz.ntmps41
    go_wp2_with fail
    refine (within_yes _ _ _ _ (by omega) (by omega)).mono ?_
    rintro e w1 ⟨rfl, rfl⟩
    go_wp2_with fail
    refine (within_yes _ _ _ _ (by omega) (by omega)).mono ?_
    rintro e w1 ⟨rfl, rfl⟩
    go_wp2_with fail
    refine (within_yes _ _ _ _ (by omega) (by omega)).mono ?_
    rintro e w1 ⟨rfl, rfl⟩
    go_wp2_with fail
    refine (within_yes _ _ _ _ (by omega) (by omega)).mono ?_
    rintro e w1 ⟨rfl, rfl⟩
    go_wp2_with fail
    refine (within_yes _ _ _ _ (by omega) (by omega)).mono ?_
    rintro e w1 ⟨rfl, rfl⟩
    go_wp2
    go_ret
    exact ⟨rfl, HB.out⟩
  · have h0 : co = 0 := g9 (by omega)
    subst h0
    clear g9
    have HB := Lib.hid ((Below.refl w.heap.size w).alloc (Nat.le_refl _) (.cells #[.int .i64 fr, .int .i64 tt, .int .i64 2, .int .i64 vo, .int .i64 li, .int .u64 (id : Int), .int .i64 0, .bool has, .int .u64 (key : Int), .int .u32 (cookie : Int), .bool gone, .slice x L c] 45))
    go_enter Tryz.func41, Tryz.ntmps41
    go_wp2_with fail
    refine (within_yes _ _ _ _ (by omega) (by omega)).mono ?_
    rintro e w1 ⟨rfl, rfl⟩
    go_wp2_with fail
    refine (within_yes _ _ _ _ (by omega) (by omega)).mono ?_
    rintro e w1 ⟨rfl, rfl⟩
    go_wp2_with fail
    refine (within_yes _ _ _ _ (by omega) (by omega)).mono ?_
    rintro e w1 ⟨rfl, rfl⟩
    go_wp2_with fail
    refine (within_yes _ _ _ _ (by omega) (by omega)).mono ?_
    rintro e w1 ⟨rfl, rfl⟩
    go_wp2_with fail
    refine (within_yes _ _ _ _ (by omega) (by omega)).mono ?_
    rintro e w1 ⟨rfl, rfl⟩
    go_wp2
    go_ret
    exact ⟨rfl, HB.out⟩
  · have h0 : co = 0 := g9 (by omega)
    subst h0
    clear g9
    have HB := Lib.hid ((Below.refl w.heap.size w).alloc (Nat.le_refl _) (.cells #[.int .i64 fr, .int .i64 tt, .int .i64 3, .int .i64 vo, .int .i64 li, .int .u64 (id : Int), .int .i64 0, .bool has, .int .u64 (key : Int), .int .u32 (cookie : Int), .bool gone, .slice x L c] 45))
    go_enter Tryz.func41, Tryz.ntmps41
    go_wp2_with fail
    refine (within_yes _ _ _ _ (by omega) (by omega)).mono ?_
    rintro e w1 ⟨rfl, rfl⟩
    go_wp2_with fail
    refine (within_yes _ _ _ _ (by omega) (by omega)).mono ?_
    rintro e w1 ⟨rfl, rfl⟩
    go_wp2_with fail
    refine (within_yes _ _ _ _ (by omega) (by omega)).mono ?_
    rintro e w1 ⟨rfl, rfl⟩
    go_wp2_with fail
    refine (within_yes _ _ _ _ (by omega) (by omega)).mono ?_
    rintro e w1 ⟨rfl, rfl⟩
    go_wp2_with fail
    refine (within_yes _ _ _ _ (by omega) (by omega)).mono ?_
    rintro e w1 ⟨rfl, rfl⟩
    go_wp2
    go_ret
    exact ⟨rfl, HB.out⟩
  · have h0 : co = 0 := g9 (by omega)
    subst h0
    clear g9
    have HB := Lib.hid ((Below.refl w.heap.size w).alloc (Nat.le_refl _) (.cells #[.int .i64 fr, .int .i64 tt, .int .i64 4, .int .i64 vo, .int .i64 li, .int .u64 (id : Int), .int .i64 0, .bool has, .int .u64 (key : Int), .int .u32 (cookie : Int), .bool gone, .slice x L c] 45))
    go_enter Tryz.func41, Tryz.ntmps41
    go_wp2_with fail
    refine (within_yes _ _ _ _ (by omega) (by omega)).mono ?_
    rintro e w1 ⟨rfl, rfl⟩
    go_wp2_with fail
    refine (within_yes _ _ _ _ (by omega) (by omega)).mono ?_
    rintro e w1 ⟨rfl, rfl⟩
    go_wp2_with fail
    refine (within_yes _ _ _ _ (by omega) (by omega)).mono ?_
    rintro e w1 ⟨rfl, rfl⟩
    go_wp2_with fail
    refine (within_yes _ _ _ _ (by omega) (by omega)).mono ?_
    rintro e w1 ⟨rfl, rfl⟩
    go_wp2_with fail
    refine (within_yes _ _ _ _ (by omega) (by omega)).mono ?_
    rintro e w1 ⟨rfl, rfl⟩
    go_wp2
    go_ret
    exact ⟨rfl, HB.out⟩
  · clear g9
    have HB := Lib.hid ((Below.refl w.heap.size w).alloc (Nat.le_refl _) (.cells #[.int .i64 fr, .int .i64 tt, .int .i64 5, .int .i64 vo, .int .i64 li, .int .u64 (id : Int), .int .i64 co, .bool has, .int .u64 (key : Int), .int .u32 (cookie : Int), .bool gone, .slice x L c] 45))
    go_enter Tryz.func41, Tryz.ntmps41
    go_wp2_with fail
    refine (within_yes _ _ _ _ (by omega) (by omega)).mono ?_
    rintro e w1 ⟨rfl, rfl⟩
    go_wp2_with fail
    refine (within_yes _ _ _ _ (by omega) (by omega)).mono ?_
    rintro e w1 ⟨rfl, rfl⟩
    go_wp2_with fail
    refine (within_yes _ _ _ _ (by omega) (by omega)).mono ?_
    rintro e w1 ⟨rfl, rfl⟩
    go_wp2_with fail
    refine (within_yes _ _ _ _ (by omega) (by omega)).mono ?_
    rintro e w1 ⟨rfl, rfl⟩
    go_wp2_with fail
    refine (within_yes _ _ _ _ (by omega) (by omega)).mono ?_
    rintro e w1 ⟨rfl, rfl⟩
    go_wp2
    go_ret
    exact ⟨rfl, HB.out⟩
set_option maxRecDepth 100000 in
set_option maxHeartbeats 2000000 in
theorem wcheck_any (m : Msg) (v : Value) (w : World) (hv : IsB w v m.n.data) :
    Calls Tryz.prog 21 #[mval m v] w fun e w' => e = .returned (cerr (mcheck m)) ∧ Below w.heap.size w w' := by
  by_cases hg : m.good
  case neg =>
    rw [show mcheck m = 1 by unfold mcheck; rw [if_pos hg]]
    have HC := Lib.hid (fun v' (W : World) (h : IsB W v' m.n.data) => can_no m v' W h hg)
    obtain ⟨fr, tt, kd, vo, li, id, co, has, key, cookie, gone, data⟩ := m
    obtain ⟨L, hL⟩ : ∃ L, data.length = L := ⟨_, rfl⟩
    obtain ⟨x, c, rfl, _, _⟩ := hv.at_len hL
    dsimp only at hv
    have hB := (Below.refl w.heap.size w).alloc (Nat.le_refl _) (.cells #[.int .i64 fr, .int .i64 tt, .int .i64 kd, .int .i64 vo, .int .i64 li, .int .u64 (id : Int), .int .i64 co, .bool has, .int .u64 (key : Int), .int .u32 (cookie : Int), .bool gone, .slice x L c] 45)
    have hX := Blk.new w #[.int .i64 fr, .int .i64 tt, .int .i64 kd, .int .i64 vo, .int .i64 li, .int .u64 (id : Int), .int .i64 co, .bool has, .int .u64 (key : Int), .int .u32 (cookie : Int), .bool gone, .slice x L c] 45
    have HI := Lib.hid (hv.mono hB (Nat.le_refl _))
    have HB := Lib.hid hB
    have HX := Lib.hid hX
    clear hv hL hB hX
    go_enter Tryz.func21, Tryz.ntmps21
    go_wp2_with fail
    refine (HC.out _ _ HI.out).mono ?_
    rintro e w1 ⟨rfl, hb1⟩
    have hX1 := HX.out.below hb1 HX.out.lt
    have HB1 := Lib.hid (HB.out.trans (hb1.mono HB.out.size))
    have HI1 := Lib.hid (HI.out.mono hb1 (Nat.le_refl _))
    have p0 := hX1.cell 0 rfl
    have p1 := hX1.cell 1 rfl
    have p2 := hX1.cell 2 rfl
    have p3 := hX1.cell 3 rfl
    have p4 := hX1.cell 4 rfl
    have p5 := hX1.cell 5 rfl
    have p6 := hX1.cell 6 rfl
    have p7 := hX1.cell 7 rfl
    have p8 := hX1.cell 8 rfl
    have p9 := hX1.cell 9 rfl
    have p10 := hX1.cell 10 rfl
    have p11 := hX1.cell 11 rfl
    clear hb1 hX1
    go_wp2
    go_ret
    exact ⟨rfl, HB1.out⟩
  have HC := Lib.hid (fun v' (W : World) (h : IsB W v' m.n.data) => can_yes m v' W h hg)
  cases hh : m.has with
  | true =>
    rw [show mcheck m = ncheck m.n by unfold mcheck; rw [if_neg (fun h => h hg), if_pos hh]]
    have HN := Lib.hid (fun v' (W : World) (h : IsB W v' m.n.data) => check_any m.n v' W h)
    have HZ := Lib.hid (ncheck_le m.n)
    obtain ⟨fr, tt, kd, vo, li, id, co, has, key, cookie, gone, data⟩ := m
    obtain ⟨L, hL⟩ : ∃ L, data.length = L := ⟨_, rfl⟩
    obtain ⟨x, c, rfl, _, _⟩ := hv.at_len hL
    dsimp only at hv hh
    subst hh
    have hB := (Below.refl w.heap.size w).alloc (Nat.le_refl _) (.cells #[.int .i64 fr, .int .i64 tt, .int .i64 kd, .int .i64 vo, .int .i64 li, .int .u64 (id : Int), .int .i64 co, .bool true, .int .u64 (key : Int), .int .u32 (cookie : Int), .bool gone, .slice x L c] 45)
    have hX := Blk.new w #[.int .i64 fr, .int .i64 tt, .int .i64 kd, .int .i64 vo, .int .i64 li, .int .u64 (id : Int), .int .i64 co, .bool true, .int .u64 (key : Int), .int .u32 (cookie : Int), .bool gone, .slice x L c] 45
    have HI := Lib.hid (hv.mono hB (Nat.le_refl _))
    have HB := Lib.hid hB
    have HX := Lib.hid hX
    clear hv hL hB hX
    obtain ⟨C, hC⟩ : ∃ C, ncheck ⟨key, cookie, gone, data⟩ = C := ⟨_, rfl⟩
    dsimp only at HN HZ ⊢
    rw [hC] at HN HZ ⊢
    clear hC
    go_enter Tryz.func21, Tryz.ntmps21
    go_wp2_with fail
    refine (HC.out _ _ HI.out).mono ?_
    rintro e w1 ⟨rfl, hb1⟩
    have hX1 := HX.out.below hb1 HX.out.lt
    have HB1 := Lib.hid (HB.out.trans (hb1.mono HB.out.size))
    have HI1 := Lib.hid (HI.out.mono hb1 (Nat.le_refl _))
    have p0 := hX1.cell 0 rfl
    have p1 := hX1.cell 1 rfl
    have p2 := hX1.cell 2 rfl
    have p3 := hX1.cell 3 rfl
    have p4 := hX1.cell 4 rfl
    have p5 := hX1.cell 5 rfl
    have p6 := hX1.cell 6 rfl
    have p7 := hX1.cell 7 rfl
    have p8 := hX1.cell 8 rfl
    have p9 := hX1.cell 9 rfl
    have p10 := hX1.cell 10 rfl
    have p11 := hX1.cell 11 rfl
    clear hb1 hX1
    go_wp2_with fail
    refine (HN.out _ _ HI1.out).mono ?_
    rintro e w2 ⟨rfl, hb2⟩
    have HB2 := Lib.hid (HB1.out.trans (hb2.mono HB1.out.size))
    clear hb2
    go_wp2
    go_ret
    exact ⟨rfl, HB2.out⟩
  | false =>
    rw [show mcheck m = if sameN m.n nz = true then 0 else 1 by unfold mcheck; rw [if_neg (fun h => h hg), if_neg (by rw [hh]; simp)]]
    have HN := Lib.hid (fun v' (W : World) (h : IsB W v' m.n.data) => nsame_any m.n nz v' (.slice none 0 0) W h (IsB.nil W))
    obtain ⟨S, hS⟩ : ∃ S, sameN m.n nz = S := ⟨_, rfl⟩
    rw [hS] at HN ⊢
    clear hS
    obtain ⟨fr, tt, kd, vo, li, id, co, has, key, cookie, gone, data⟩ := m
    obtain ⟨L, hL⟩ : ∃ L, data.length = L := ⟨_, rfl⟩
    obtain ⟨x, c, rfl, _, _⟩ := hv.at_len hL
    dsimp only at hv hh
    subst hh
    have hB := (Below.refl w.heap.size w).alloc (Nat.le_refl _) (.cells #[.int .i64 fr, .int .i64 tt, .int .i64 kd, .int .i64 vo, .int .i64 li, .int .u64 (id : Int), .int .i64 co, .bool false, .int .u64 (key : Int), .int .u32 (cookie : Int), .bool gone, .slice x L c] 45)
    have hX := Blk.new w #[.int .i64 fr, .int .i64 tt, .int .i64 kd, .int .i64 vo, .int .i64 li, .int .u64 (id : Int), .int .i64 co, .bool false, .int .u64 (key : Int), .int .u32 (cookie : Int), .bool gone, .slice x L c] 45
    have HI := Lib.hid (hv.mono hB (Nat.le_refl _))
    have HB := Lib.hid hB
    have HX := Lib.hid hX
    clear hv hL hB hX
    dsimp only at HN
    cases S with
    | true =>
      rw [if_pos rfl]
      go_enter Tryz.func21, Tryz.ntmps21
      go_wp2_with fail
      refine (HC.out _ _ HI.out).mono ?_
      rintro e w1 ⟨rfl, hb1⟩
      have hX1 := HX.out.below hb1 HX.out.lt
      have HB1 := Lib.hid (HB.out.trans (hb1.mono HB.out.size))
      have HI1 := Lib.hid (HI.out.mono hb1 (Nat.le_refl _))
      have p0 := hX1.cell 0 rfl
      have p1 := hX1.cell 1 rfl
      have p2 := hX1.cell 2 rfl
      have p3 := hX1.cell 3 rfl
      have p4 := hX1.cell 4 rfl
      have p5 := hX1.cell 5 rfl
      have p6 := hX1.cell 6 rfl
      have p7 := hX1.cell 7 rfl
      have p8 := hX1.cell 8 rfl
      have p9 := hX1.cell 9 rfl
      have p10 := hX1.cell 10 rfl
      have p11 := hX1.cell 11 rfl
      clear hb1 hX1
      go_wp2_with fail
      refine (HN.out _ _ HI1.out).mono ?_
      rintro e w2 ⟨rfl, hb2⟩
      have HB2 := Lib.hid (HB1.out.trans (hb2.mono HB1.out.size))
      clear hb2
      go_wp2
      go_ret
      exact ⟨rfl, HB2.out⟩
    | false =>
      rw [if_neg (by simp)]
      go_enter Tryz.func21, Tryz.ntmps21
      go_wp2_with fail
      refine (HC.out _ _ HI.out).mono ?_
      rintro e w1 ⟨rfl, hb1⟩
      have hX1 := HX.out.below hb1 HX.out.lt
      have HB1 := Lib.hid (HB.out.trans (hb1.mono HB.out.size))
      have HI1 := Lib.hid (HI.out.mono hb1 (Nat.le_refl _))
      have p0 := hX1.cell 0 rfl
      have p1 := hX1.cell 1 rfl
      have p2 := hX1.cell 2 rfl
      have p3 := hX1.cell 3 rfl
      have p4 := hX1.cell 4 rfl
      have p5 := hX1.cell 5 rfl
      have p6 := hX1.cell 6 rfl
      have p7 := hX1.cell 7 rfl
      have p8 := hX1.cell 8 rfl
      have p9 := hX1.cell 9 rfl
      have p10 := hX1.cell 10 rfl
      have p11 := hX1.cell 11 rfl
      clear hb1 hX1
      go_wp2_with fail
      refine (HN.out _ _ HI1.out).mono ?_
      rintro e w2 ⟨rfl, hb2⟩
      have HB2 := Lib.hid (HB1.out.trans (hb2.mono HB1.out.size))
      clear hb2
      go_wp2
      go_ret
      exact ⟨rfl, HB2.out⟩

end Go.Proofs.YtllbngopfganjaaGreatDoor.Nd
end

section
namespace Go.Cor
open Go

section
variable {P : Program} {ops : Array Oper} {Q : Exit → Act → World → Prop} {md : Region.Mode} {S : World → Prop} {m : Nat}

/-- Whatever order: S holds behind every operation but number m. -/
def AnyE (P : Program) (md : Region.Mode) (ops : Array Oper) (Q : Exit → Act → World → Prop) (S : World → Prop) (m : Nat) : Nat → Array Bool → Act → World → Prop
  | 0, l, a, w => Region.ready md ops l = [] ∧ Q .normal a w
  | n + 1, l, a, w => (Region.ready md ops l = [] → Q .normal a w) ∧ ∀ i ∈ Region.ready md ops l, wpOp P ops Q i (fun b v => (i = m ∨ S v) ∧ AnyE P md ops Q S m n (l.setIfInBounds i true) b v) a w
theorem AnyE.any : ∀ (n : Nat) (l : Array Bool) (a : Act) (w : World), AnyE P md ops Q S m n l a w → wpAny P md ops Q n l a w
  | 0, _, _, _, h => h
  | n + 1, _, _, _, h => ⟨h.1, fun i hi => wpOp_mono (fun _ _ k => AnyE.any n _ _ _ k.2) (h.2 i hi)⟩
/-- Number m waits for number i. -/
def waitsB (md : Region.Mode) (ops : Array Oper) (m i : Nat) : Bool := match ops[m]? with | some o => o.after.any fun e => Region.binds md e && e.on == i | none => false
theorem waits_not {i : Nat} {l : Array Bool} (hw : waitsB md ops m i = true) (hi : i ∈ Region.ready md ops l) : m ∉ Region.ready md ops l := fun hm => by
  obtain ⟨h1, _⟩ := mem_ready.1 hi
  obtain ⟨_, o, ho, hall⟩ := mem_ready.1 hm
  unfold waitsB at hw
  rw [ho] at hw
  obtain ⟨e, he, h2⟩ := Array.any_eq_true'.1 hw
  rw [Bool.and_eq_true, beq_iff_eq] at h2
  have h3 := hall e he h2.1
  rw [h2.2] at h3
  rcases Nat.lt_or_ge i l.size with h | h
  · simp [h] at h1 h3; rw [h1] at h3; cases h3
  · simp [Array.getElem?_eq_none h] at h3
theorem AnyE.front {i : Nat} {o : Oper} {v : Value} (ho : ops[i]? = some o) (hsel : ∀ (j : Nat) (p : Oper) cs b, ops[j]? = some p → p.op ≠ .select cs b)
    (hQ : ∀ c a w, Q (.panic c) (a.put o.dst v) w → Q (.panic c) a w) (hw : waitsB md ops m i = true) (n : Nat) (l : Array Bool) (a : Act) (w : World)
    (free : ∀ j p, ops[j]? = some p → j ≠ i → l.getD j true = false → (∀ e ∈ p.after, Region.binds md e = true → e.on ≠ i) → o.apart ops p = true)
    (hr : i ∈ Region.ready md ops l) (hy : YieldsIf P ops S o v a) (hS : S w) (H : AnyE P md ops Q S m n (l.setIfInBounds i true) (a.put o.dst v) w) : AnyE P md ops Q S m (n + 1) l a w := by
  induction n generalizing l a w with
  | zero =>
    refine ⟨fun h => (by rw [h] at hr; cases hr), fun j hj => ?_⟩
    by_cases e : j = i
    · subst e
      exact hy.wpOp ho hS ⟨.inr hS, H⟩
    · have h := ready_mono hj e
      rw [H.1] at h
      cases h
  | succ n ih =>
    refine ⟨fun h => (by rw [h] at hr; cases hr), fun j hj => ?_⟩
    by_cases e : j = i
    · subst e
      exact hy.wpOp ho hS ⟨.inr hS, H⟩
    · have hjm : j ≠ m := fun e2 => waits_not hw hr (by rw [← e2]; exact hj)
      obtain ⟨hjl, p, hp, hall⟩ := mem_ready.1 hj
      have hno : ∀ x ∈ p.after, Region.binds md x = true → x.on ≠ i := fun x hx hb hxi => by
        have h1 := hall x hx hb
        have h0 := (mem_ready.1 hr).1
        rw [hxi] at h1
        rcases Nat.lt_or_ge i l.size with h' | h'
        · simp [h'] at h0 h1; rw [h0] at h1; cases h1
        · simp [Array.getElem?_eq_none h'] at h1
      have h2 := wpOp_putIf hp (free j p hp e hjl hno) (fun cs b => hsel i o cs b ho) (fun cs b => hsel j p cs b hp) hQ hy (H.2 j (ready_mono hj e))
      refine wpOp_mono (fun b u k => ?_) h2
      obtain ⟨ky, kS, kE⟩ := k
      have kS' : S u := kS.resolve_left hjm
      refine ⟨.inr kS', ih (l.setIfInBounds j true) b u (fun x q hq hxi hun hn => ?_) (ready_mono hr (Ne.symm e)) ky kS' ?_⟩
      · refine free x q hq hxi ?_ hn
        by_cases hjx : j = x
        · subst hjx; exact hjl
        · rw [getD_set_ne true hjx] at hun; exact hun
      · rw [Array.setIfInBounds_comm _ _ e]
        exact kE
/-- Take number i first. -/
theorem AnyE.take {i : Nat} {o : Oper} {v : Value} {n : Nat} {l : Array Bool} {a : Act} {w : World} (hi : ops[i]? = some o) (hs : Region.noSelect ops = true) (hw : waitsB md ops m i = true) (hf : Region.free md ops l i = true) (hr : (Region.ready md ops l).contains i = true)
    (hQ : ∀ c a w, Q (.panic c) (a.put o.dst v) w → Q (.panic c) a w) (hy : YieldsIf P ops S o v a) (hS : S w) (h : AnyE P md ops Q S m n (l.setIfInBounds i true) (a.put o.dst v) w) : AnyE P md ops Q S m (n + 1) l a w :=
  AnyE.front hi (Region.noSelect_spec hs) hQ hw n l a w (Region.free_spec hi hf) (by simpa using hr) hy hS h
/-- Each of these comes up next. -/
def AllE (P : Program) (md : Region.Mode) (ops : Array Oper) (Q : Exit → Act → World → Prop) (S : World → Prop) (m n : Nat) (l : Array Bool) (a : Act) (w : World) (rs : List Nat) : Prop :=
  ∀ i ∈ rs, wpOp P ops Q i (fun b v => (i = m ∨ S v) ∧ AnyE P md ops Q S m n (l.setIfInBounds i true) b v) a w
theorem AllE.nil {n : Nat} {l : Array Bool} {a : Act} {w : World} : AllE P md ops Q S m n l a w [] := fun _ h => by cases h
theorem AllE.cons {n : Nat} {l : Array Bool} {a : Act} {w : World} {i : Nat} {o : Oper} {rs : List Nat} (ho : ops[i]? = some o)
    (h : ∀ K : Act → World → Prop, Shut (∀ a w, S w → (S w → AnyE P md ops Q S m n (l.setIfInBounds i true) a w) → K a w) → if Region.wanted o (yielded ops a.tmps) = true then Oper.wp P o a w K Q else K (a.put o.dst undef) w)
    (hs : AllE P md ops Q S m n l a w rs) : AllE P md ops Q S m n l a w (i :: rs) := fun j hj => by
  rcases List.mem_cons.1 hj with rfl | hj
  · exact wpOp_step ho (fun K hK => h K (fun a w k1 k2 => hK a w ⟨.inr k1, k2 k1⟩))
  · exact hs j hj
theorem AllE.last {n : Nat} {l : Array Bool} {a : Act} {w : World} {o : Oper} (ho : ops[m]? = some o)
    (h : ∀ K : Act → World → Prop, Shut (∀ a w, AnyE P md ops Q S m n (l.setIfInBounds m true) a w → K a w) → if Region.wanted o (yielded ops a.tmps) = true then Oper.wp P o a w K Q else K (a.put o.dst undef) w) : AllE P md ops Q S m n l a w [m] := fun j hj => by
  obtain rfl : j = m := by simpa using hj
  exact wpOp_step ho (fun K hK => h K (fun a w k => hK a w ⟨.inl rfl, k⟩))
theorem AnyE.next {rs : List Nat} {n : Nat} {l : Array Bool} {a : Act} {w : World} (hr : Region.ready md ops l = rs) (hne : rs ≠ []) (h : AllE P md ops Q S m n l a w rs) : AnyE P md ops Q S m (n + 1) l a w :=
  ⟨fun h0 => absurd (hr ▸ h0) hne, hr ▸ h⟩
theorem AnyE.done {l : Array Bool} {a : Act} {w : World} (hr : Region.ready md ops l = []) (h : Q .normal a w) : ∀ n, AnyE P md ops Q S m n l a w
  | 0 => ⟨hr, h⟩
  | _ + 1 => ⟨fun _ => h, by rw [hr]; simp⟩
theorem AnyE.start {id : Nat} {a : Act} {w : World} (m : Nat) (hm : P.follows .mixedOrders = true) (hS : S w.drew) (h : S w.drew → AnyE P .any ops Q S m ops.size (Array.replicate ops.size false) a w.drew) : (Code.region id ops true).wp P Q a w :=
  wp_region_any hm (AnyE.any _ _ _ _ (h hS))
end
end Go.Cor
end
