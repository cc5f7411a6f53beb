/- Asc, Zm, Za, Zb, Ws, Zk, Zs. -/
import Derived.Test.YtllbngopfganjaaGreatDoorM3
import Derived.Deep.RegionWith
import Derived.Lib.Hide
import Derived.Lib.ReflectliteSlice
import Derived.Test.YtllbngopfganjaaGreatDoorM10
import Derived.Defers
set_option linter.unusedVariables false
set_option linter.unusedSimpArgs false

section
namespace Go.Proofs.YtllbngopfganjaaGreatDoor
open Go.RowKit Go.Extern.Stop Go.Stop Go.Extern

/-- errors.errorType, as the program's text lays it. -/
abbrev laidE (w : World) : Prop := w.cell? ⟨0, 0, none⟩ = some (.iface 152 (.agg #[.pointer (some ⟨5, 27, none⟩)]))

theorem Tryz.valueOfPZ (t : Addr) (w : World) : (ReflectliteValue.unpack (.iface 149 (.pointer (some t)))).run Tryz.prog w
    = .ok (.agg #[.pointer (some ⟨5, 149, none⟩), .pointer (some ⟨w.heap.size, 0, none⟩), .int .u64 150]) (w.alloc (.cells #[.pointer (some t)] 149)) := by kernel_rfl
theorem Tryz.typePZ (a : Addr) (w : World) : (ReflectliteValue.methodAny (ReflectliteValue.valueError "reflectlite.Value.Type" 0) (fun t _ _ _ => ReflectliteType.toType t) #[.agg #[.pointer (some ⟨5, 149, none⟩), .pointer (some a), .int .u64 150]]).run Tryz.prog w
    = .ok (.iface 152 (.agg #[.pointer (some ⟨5, 149, none⟩)])) w := by kernel_rfl
theorem Tryz.methodKindZ (h : Value) (w : World) : (Go.method 391 152 (.agg #[h]) "Kind").run Tryz.prog w = .ok (172, h) w := by kernel_rfl
theorem Tryz.kindPZ (w : World) : ((ReflectliteType.abiMethod fun t => (fun a : Nat => Value.int IntKind.u8 (a : Int)) <$> Rtype.kind t) #[.pointer (some ⟨5, 149, none⟩)]).run Tryz.prog w = .ok (.int .u8 22) w := by kernel_rfl
theorem Tryz.kindAZ (w : World) : ((ReflectliteType.abiMethod fun t => (fun a : Nat => Value.int IntKind.u8 (a : Int)) <$> Rtype.kind t) #[.pointer (some ⟨5, 59, none⟩)]).run Tryz.prog w = .ok (.int .u8 2) w := by kernel_rfl
theorem Tryz.partsPZ (a : Addr) (w : World) : (ReflectliteValue.parts (.agg #[.pointer (some ⟨5, 149, none⟩), .pointer (some a), .int .u64 150])).run Tryz.prog w = .ok (some (149, a, 150)) w := by kernel_rfl
theorem Tryz.isNilPZ (a p : Addr) (W : World) (ha : W.cell? a = some (.pointer (some p))) :
    (ReflectliteValue.method (ReflectliteValue.valueError "reflectlite.Value.IsNil" 0) ReflectliteValue.isNil #[.agg #[.pointer (some ⟨5, 149, none⟩), .pointer (some a), .int .u64 150]]).run Tryz.prog W = .ok (.bool false) W := by
  rw [Lib.rl_method]
  simp only [Sem.run_bind, Tryz.partsPZ, Result.andThen]
  simp [ReflectliteValue.isNil, loadVar, isAgg, underlying, Tryz.underlying149, ha, Result.andThen]
theorem Tryz.methodElemZ (h : Value) (w : World) : (Go.method 391 152 (.agg #[h]) "Elem").run Tryz.prog w = .ok (180, .agg #[h]) w := by kernel_rfl
theorem Tryz.methodImplementsZ (h : Value) (w : World) : (Go.method 391 152 (.agg #[h]) "Implements").run Tryz.prog w = .ok (181, .agg #[h]) w := by kernel_rfl
theorem Tryz.methodAssignableToZ (h : Value) (w : World) : (Go.method 391 152 (.agg #[h]) "AssignableTo").run Tryz.prog w = .ok (178, .agg #[h]) w := by kernel_rfl
theorem Tryz.elemPZ (w : World) : (ReflectliteType.method ReflectliteType.elem #[.agg #[.pointer (some ⟨5, 149, none⟩)]]).run Tryz.prog w = .ok (.iface 152 (.agg #[.pointer (some ⟨5, 59, none⟩)])) w := by kernel_rfl
theorem Tryz.implementsAZ (w : World) : (ReflectliteType.relation "Implements" ReflectliteType.implements_ #[.agg #[.pointer (some ⟨5, 59, none⟩)], .iface 152 (.agg #[.pointer (some ⟨5, 27, none⟩)])]).run Tryz.prog w = .ok (.bool true) w := by kernel_rfl
theorem Tryz.typeOfAZ (v : Value) (w : World) : (ReflectliteType.typeOf #[.iface 59 v]).run Tryz.prog w = .ok (.iface 152 (.agg #[.pointer (some ⟨5, 59, none⟩)])) w := by kernel_rfl
theorem Tryz.assignableAZ (w : World) : (ReflectliteType.relation "AssignableTo" ReflectliteType.assignableTo #[.agg #[.pointer (some ⟨5, 59, none⟩)], .iface 152 (.agg #[.pointer (some ⟨5, 59, none⟩)])]).run Tryz.prog w = .ok (.bool true) w := by kernel_rfl
theorem Tryz.valueOfAZ (e : Int) (w : World) : (ReflectliteValue.unpack (.iface 59 (.int .i64 e))).run Tryz.prog w
    = .ok (.agg #[.pointer (some ⟨5, 59, none⟩), .pointer (some ⟨w.heap.size, 0, none⟩), .int .u64 130]) (w.alloc (.cells #[.int .i64 e] 59)) := by kernel_rfl
theorem Tryz.elemOfPZ (w : World) : (Rtype.elem? 149).run Tryz.prog w = .ok (some 59) w := by kernel_rfl
theorem Tryz.mkAZ (p : Addr) (w : World) : (ReflectliteValue.mk 59 p ReflectliteValue.flagAddr).run Tryz.prog w = .ok (.agg #[.pointer (some ⟨5, 59, none⟩), .pointer (some p), .int .u64 386]) w := by kernel_rfl
theorem Tryz.elemVPZ (a p : Addr) (W : World) (ha : W.cell? a = some (.pointer (some p))) :
    (ReflectliteValue.method (ReflectliteValue.valueError "reflectlite.Value.Elem" 0) ReflectliteValue.elem #[.agg #[.pointer (some ⟨5, 149, none⟩), .pointer (some a), .int .u64 150]]).run Tryz.prog W
      = .ok (.agg #[.pointer (some ⟨5, 59, none⟩), .pointer (some p), .int .u64 386]) W := by
  rw [Lib.rl_method]
  simp only [Sem.run_bind, Tryz.partsPZ, Result.andThen]
  simp [ReflectliteValue.elem, loadVar, isAgg, underlying, Tryz.underlying149, ha, Result.andThen, Tryz.elemOfPZ, Tryz.mkAZ]
theorem Tryz.partsAaZ (a : Addr) (w : World) : (ReflectliteValue.parts (.agg #[.pointer (some ⟨5, 59, none⟩), .pointer (some a), .int .u64 386])).run Tryz.prog w = .ok (some (59, a, 386)) w := by kernel_rfl
theorem Tryz.partsAZ (a : Addr) (w : World) : (ReflectliteValue.parts (.agg #[.pointer (some ⟨5, 59, none⟩), .pointer (some a), .int .u64 130])).run Tryz.prog w = .ok (some (59, a, 130)) w := by kernel_rfl
theorem Tryz.directAZ (w : World) : (Rtype.directlyAssignable 59 59).run Tryz.prog w = .ok true w := by kernel_rfl
theorem Tryz.setAZ (ta b : Addr) (e : Int) (old : Value) (W : World) (hb : W.cell? b = some (.int .i64 e)) (ht : W.cell? ta = some old) (hf : W.frozen? ta = false) :
    (ReflectliteValue.set #[.agg #[.pointer (some ⟨5, 59, none⟩), .pointer (some ta), .int .u64 386], .agg #[.pointer (some ⟨5, 59, none⟩), .pointer (some b), .int .u64 130]]).run Tryz.prog W
      = .ok (.tuple #[]) (W.setCell ta (.int .i64 e)) := by
  have h : ReflectliteValue.set #[.agg #[.pointer (some ⟨5, 59, none⟩), .pointer (some ta), .int .u64 386], .agg #[.pointer (some ⟨5, 59, none⟩), .pointer (some b), .int .u64 130]] =
    (ReflectliteValue.parts (.agg #[.pointer (some ⟨5, 59, none⟩), .pointer (some ta), .int .u64 386]) >>= fun _ => ReflectliteValue.parts (.agg #[.pointer (some ⟨5, 59, none⟩), .pointer (some b), .int .u64 130]) >>= _) := rfl
  rw [h]
  simp only [Sem.run_bind, Tryz.partsAaZ, Tryz.partsAZ, Result.andThen]
  simp [ReflectliteValue.flagAddr, loadVar, isAgg, underlying, Tryz.underlying59, hb, Result.andThen, Tryz.directAZ, storeVar, Value.cells, storeCells, Addr.add]
  rw [run_store Tryz.prog W ta _ _ (by rfl)]
  simp [ht, hf]
set_option maxHeartbeats 4000000 in
/-- errors.As of an error at a place: the target holds it. -/
theorem as_code (e : Int) (t : Addr) (old : Value) (w : World) (hg : laidE w) (ht0 : w.cell? t = some old) (hf0 : w.frozen? t = false) :
    Calls Tryz.prog 72 #[.iface 59 (.int .i64 e), .iface 149 (.pointer (some t))] w fun ev w' => ev = .returned (.bool true) ∧ w' = ((((w.alloc (.cells #[.pointer (some t)] 149)).alloc (.cells #[.pointer (some ⟨5, 149, none⟩), .pointer (some ⟨w.heap.size, 0, none⟩), .int .u64 150] 195)).alloc (.cells #[.pointer (some ⟨5, 149, none⟩), .pointer (some ⟨w.heap.size, 0, none⟩), .int .u64 150] 195)).alloc (.cells #[.int .i64 e] 59)).setCell t (.int .i64 e) := by
  have h6 := @run_callFunc_extern Tryz.prog 98 _ (fun args => ReflectliteValue.unpack (args.getD 0 (.tuple #[]))) Tryz.func98 (by kernel_rfl) (by kernel_rfl) (by kernel_rfl) (by kernel_rfl)
  have h7 := @run_callFunc_extern Tryz.prog 99 _ (ReflectliteValue.methodAny (ReflectliteValue.valueError "reflectlite.Value.Type" 0) (fun t _ _ _ => ReflectliteType.toType t)) Tryz.func99 (by kernel_rfl) (by kernel_rfl) (by kernel_rfl) (by kernel_rfl)
  have h8 := @run_callFunc_extern Tryz.prog 100 _ (ReflectliteValue.method (ReflectliteValue.valueError "reflectlite.Value.IsNil" 0) ReflectliteValue.isNil) Tryz.func100 (by kernel_rfl) (by kernel_rfl) (by kernel_rfl) (by kernel_rfl)
  have h27 := @run_callFunc_extern Tryz.prog 172 _ (ReflectliteType.abiMethod fun t => do pure (.int .u8 (← Rtype.kind t))) Tryz.func172 (by kernel_rfl) (by kernel_rfl) (by kernel_rfl) (by kernel_rfl)
  have h37 := @run_callFunc_extern Tryz.prog 180 _ (ReflectliteType.method ReflectliteType.elem) Tryz.func180 (by kernel_rfl) (by kernel_rfl) (by kernel_rfl) (by kernel_rfl)
  have h38 := @run_callFunc_extern Tryz.prog 181 _ (ReflectliteType.relation "Implements" ReflectliteType.implements_) Tryz.func181 (by kernel_rfl) (by kernel_rfl) (by kernel_rfl) (by kernel_rfl)
  have h10 := @run_callFunc_extern Tryz.prog 49 _ ReflectliteType.typeOf Tryz.func49 (by kernel_rfl) (by kernel_rfl) (by kernel_rfl) (by kernel_rfl)
  have h35 := @run_callFunc_extern Tryz.prog 178 _ (ReflectliteType.relation "AssignableTo" ReflectliteType.assignableTo) Tryz.func178 (by kernel_rfl) (by kernel_rfl) (by kernel_rfl) (by kernel_rfl)
  have h11 := @run_callFunc_extern Tryz.prog 125 _ (ReflectliteValue.method (ReflectliteValue.valueError "reflectlite.Value.Elem" 0) ReflectliteValue.elem) Tryz.func125 (by kernel_rfl) (by kernel_rfl) (by kernel_rfl) (by kernel_rfl)
  have h12 := @run_callFunc_extern Tryz.prog 126 _ ReflectliteValue.set Tryz.func126 (by kernel_rfl) (by kernel_rfl) (by kernel_rfl) (by kernel_rfl)
  have tO := Tryz.typeOfAZ
  have mA := Tryz.methodAssignableToZ
  have a25 := Tryz.assignableAZ
  have v25 := Tryz.valueOfAZ
  have f6 := Tryz.valueOfPZ
  have f7 := Tryz.typePZ
  have mK := Tryz.methodKindZ
  have mE := Tryz.methodElemZ
  have mI := Tryz.methodImplementsZ
  have k27 := Tryz.kindPZ
  have k25 := Tryz.kindAZ
  have e27 := Tryz.elemPZ
  have i25 := Tryz.implementsAZ
  have n8 := Tryz.isNilPZ ⟨w.heap.size, 0, none⟩ t ((w.alloc (.cells #[.pointer (some t)] 149)).alloc (.cells #[.pointer (some ⟨5, 149, none⟩), .pointer (some ⟨w.heap.size, 0, none⟩), .int .u64 150] 195)) (by simp)
  have hlt : 0 < w.heap.size := by
    rcases Nat.eq_zero_or_pos w.heap.size with h0 | h
    · simp [laidE, World.cell?, h0] at hg
    · exact h
  have hg2 : ((w.alloc (.cells #[.pointer (some t)] 149)).alloc (.cells #[.pointer (some ⟨5, 149, none⟩), .pointer (some ⟨w.heap.size, 0, none⟩), .int .u64 150] 195)).cell? ⟨0, 0, none⟩ = some (.iface 152 (.agg #[.pointer (some ⟨5, 27, none⟩)])) := by
    rw [World.cell?_alloc_lt _ _ ⟨0, 0, none⟩ (by simp), World.cell?_alloc_lt _ _ ⟨0, 0, none⟩ hlt]; exact hg
  have htl : t.block < w.heap.size := by
    rcases Nat.lt_or_ge t.block w.heap.size with h | h
    · exact h
    · simp [World.cell?, Array.getElem?_eq_none h] at ht0
  have el := Tryz.elemVPZ ⟨w.heap.size, 0, none⟩ t (((w.alloc (.cells #[.pointer (some t)] 149)).alloc (.cells #[.pointer (some ⟨5, 149, none⟩), .pointer (some ⟨w.heap.size, 0, none⟩), .int .u64 150] 195)).alloc (.cells #[.pointer (some ⟨5, 149, none⟩), .pointer (some ⟨w.heap.size, 0, none⟩), .int .u64 150] 195)) (by rw [World.cell?_alloc_lt _ _ ⟨w.heap.size, 0, none⟩ (by simp; omega)]; simp)
  have st := Tryz.setAZ t ⟨w.heap.size + 1 + 1 + 1, 0, none⟩ e old ((((w.alloc (.cells #[.pointer (some t)] 149)).alloc (.cells #[.pointer (some ⟨5, 149, none⟩), .pointer (some ⟨w.heap.size, 0, none⟩), .int .u64 150] 195)).alloc (.cells #[.pointer (some ⟨5, 149, none⟩), .pointer (some ⟨w.heap.size, 0, none⟩), .int .u64 150] 195)).alloc (.cells #[.int .i64 e] 59))
    (by rw [World.cell?_alloc_at _ _ _ _ (by simp)]; rfl)
    (by rw [World.cell?_alloc_lt _ _ t (by simp; omega), World.cell?_alloc_lt _ _ t (by simp; omega), World.cell?_alloc_lt _ _ t (by simp; omega), World.cell?_alloc_lt _ _ t htl]; exact ht0)
    (by rw [World.frozen?_alloc_old _ _ t (by simp; omega), World.frozen?_alloc_old _ _ t (by simp; omega), World.frozen?_alloc_old _ _ t (by simp; omega), World.frozen?_alloc_old _ _ t (Nat.ne_of_lt htl)]; exact hf0)
  go_enter Tryz.func72, Tryz.ntmps72
  go_wp2
  refine wp_loop_rounds 1 ?_
  rw [rounds_succ]
  go_wp2
  go_ret
  exact ⟨rfl, rfl⟩


end Go.Proofs.YtllbngopfganjaaGreatDoor
end

section
namespace Go.Proofs.YtllbngopfganjaaGreatDoor.Nd
open Go.RowKit Go.Cor

theorem Tryz.lawVm : Go.Maps.Keyed Tryz.prog 3 := Go.Maps.int_keyed Tryz.underlying3
theorem keyVm {a : Int} (ha : wfI a) : keyOf Tryz.prog 3 (.int .i64 a) = some (.int .i64 a) := Go.Maps.keyOf_int_mk Tryz.underlying3 ha
theorem Tryz.zeroHp (w : World) : (zeroValue 72).run Tryz.prog w = .ok (.pointer none) w := by kernel_rfl
/-- The map of a node without volumes; of one that holds number 1. -/
def Vm0 (w : World) (b : Nat) : Prop := w.ownsMap Tryz.prog 3 heldR b 0 (.map [])
def Vm1 (w : World) (b h : Nat) : Prop := w.ownsMap Tryz.prog 3 heldR b 1 ((DataW.map []).put (.int .i64 1) (.held (.pointer (some ⟨h, 0, none⟩))))
theorem ownsMap_kept {T : Nat → Prop} {w w' : World} {t : TypeId} {R : Value → Option (DataW Value × List MemPlace)} {b n : Nat} {D : DataW Value} (h : w.ownsMap Tryz.prog t R b n D) (hk : Kept T w w') (hT : ¬ T b) : w'.ownsMap Tryz.prog t R b n D := by
  have hlt := h.lt
  obtain ⟨es, clock, hb, F, hs, hD⟩ := h
  exact ⟨es, clock, (hk.block b hlt hT).trans hb, F, hs, hD⟩
theorem Vm0.kept {T : Nat → Prop} {w w' : World} {b : Nat} (h : Vm0 w b) (hk : Kept T w w') (hT : ¬ T b) : Vm0 w' b := ownsMap_kept h hk hT
theorem Vm1.kept {T : Nat → Prop} {w w' : World} {b q : Nat} (h : Vm1 w b q) (hk : Kept T w w') (hT : ¬ T b) : Vm1 w' b q := ownsMap_kept h hk hT
theorem Vm0.made (w : World) : Vm0 (w.alloc (.map #[] 0)) w.heap.size := World.ownsMap_made w _ _ _
theorem wfI_1 : wfI 1 := wfI_of (by omega) (by omega)
theorem keyLit_1 : WideAt.IsKeyLit (.int .i64 1) := Tryz.lawVm.key (keyVm wfI_1)
theorem Vm1.look_yes {w : World} {b q : Nat} (h : Vm1 w b q) :
    (Instr.lookup 66 (.map (some b)) (.int .i64 1) true).run Tryz.prog w = .ok (.tuple #[.pointer (some ⟨q, 0, none⟩), .bool true]) w := by
  obtain ⟨v, p, h2, h3⟩ := World.ownsMap.look_ok h Tryz.lawVm Tryz.underlying66 (Tryz.zeroHp w) (zd := .held (.pointer none)) (zp := []) rfl (keyVm wfI_1)
  rw [Go.Maps.has_put_same Go.Maps.isMap_empty keyLit_1] at h2
  rw [Go.Maps.atKey_put_same Go.Maps.isMap_empty keyLit_1] at h3
  simp only [heldR, Option.some.injEq, Prod.mk.injEq] at h3
  have := h3.1
  cases this
  exact h2
theorem Vm1.look_no {w : World} {b q : Nat} (h : Vm1 w b q) {a : Int} (ha : wfI a) (h1 : a ≠ 1) :
    (Instr.lookup 66 (.map (some b)) (.int .i64 a) true).run Tryz.prog w = .ok (.tuple #[.pointer none, .bool false]) w := by
  obtain ⟨v, p, h2, h3⟩ := World.ownsMap.look_ok h Tryz.lawVm Tryz.underlying66 (Tryz.zeroHp w) (zd := .held (.pointer none)) (zp := []) rfl (keyVm ha)
  rw [Go.Maps.has_put_other (fun e => h1 (by injection e))] at h2
  rw [Go.Maps.atKey_put_other (fun e => h1 (by injection e))] at h3
  have h4 : v = .pointer none := by
    have e : (DataW.map [] : DataW Value).atKey (.int .i64 a) (.held (.pointer none)) = .held (.pointer none) := rfl
    rw [e] at h3
    simp only [heldR, Option.some.injEq, Prod.mk.injEq] at h3
    have := h3.1
    cases this
    rfl
  subst h4
  exact h2
theorem Vm0.store {w : World} {b : Nat} (h : Vm0 w b) (q : Nat) :
    ∃ w', (Instr.mapUpdate 66 (.map (some b)) (.int .i64 1) (.pointer (some ⟨q, 0, none⟩))).run Tryz.prog w = .ok () w' ∧ Vm1 w' b q ∧ Kept (fun k => k = b) w w' := by
  obtain ⟨w', h2, h3, h4⟩ := World.ownsMap.store h Tryz.lawVm Tryz.underlying66 (by decide) (keyVm wfI_1) (val := .pointer (some ⟨q, 0, none⟩)) (d := .held (.pointer (some ⟨q, 0, none⟩))) (ps := []) rfl
  exact ⟨w', h2, h3, kept_of_turned16 h4 _ rfl⟩
/-- A node's box. -/
def zcells (p b tg : Nat) (place life : Int) : Array Value := #[.int .i64 place, .pointer (some ⟨p, 0, none⟩), .int .i64 life, .bool true, .map (some b), .pointer (some ⟨tg, 0, none⟩)]
abbrev hcells (vg : Nat) (most : Int) (wv : Value) : Array Value := #[.pointer (some ⟨vg, 0, none⟩), .int .i64 most, wv]
/-- A node with one volume: its box at g, its map at b, what is held at q. -/
structure ZAt (w : World) (B g b q : Nat) (So Sv St : Nat → Prop) (vg p tg : Nat) (d : Dsk) (k : Nat) (most : Int) (wv : Value) (n : NodeP) (r : Nat) : Prop where
  pt : ZPt w B So Sv St vg p tg d k n r
  blk : Blk w g (zcells p b tg n.place n.life) 68
  map : Vm1 w b q
  hel : Blk w q (hcells vg most wv) 75
  og : So g
  ob : So b
  oq : So q
section
variable {w w' : World} {B B' g b q vg p tg k : Nat} {So Sv St : Nat → Prop} {d : Dsk} {most : Int} {wv : Value} {n : NodeP} {r : Nat}
theorem ZAt.kept {T : Nat → Prop} (h : ZAt w B g b q So Sv St vg p tg d k most wv n r) (hk : Kept T w w') (hT : ∀ j, So j ∨ Sv j ∨ St j → ¬ T j) : ZAt w' B g b q So Sv St vg p tg d k most wv n r :=
  ⟨h.pt.kept hk hT, h.blk.kept hk (hT g (.inl h.og)), h.map.kept hk (hT b (.inl h.ob)), h.hel.kept hk (hT q (.inl h.oq)), h.og, h.ob, h.oq⟩
theorem ZAt.below (h : ZAt w B g b q So Sv St vg p tg d k most wv n r) (hb : Below w.heap.size w w') : ZAt w' B g b q So Sv St vg p tg d k most wv n r :=
  h.kept (T := fun _ => False) (Kept.of_below hb (Nat.le_refl _)) (fun _ _ h => h)
theorem ZAt.less {r' : Nat} (h : ZAt w B g b q So Sv St vg p tg d k most wv n r) (hr : r' ≤ r) : ZAt w B g b q So Sv St vg p tg d k most wv n r' :=
  ⟨h.pt.less hr, h.blk, h.map, h.hel, h.og, h.ob, h.oq⟩
/-- The volume's call. -/
theorem ZAt.vol {v' : Vst} {k' : Nat} (h : ZAt w B g b q So Sv St vg p tg d k most wv n (r + 1)) (hV : VolT w w' vg p Sv d n.v k' v') (hg : Grew n.v v') (hk' : k' ≤ k + 12) :
    ∃ Sv' d', ZAt w' B g b q So Sv' St vg p tg d' k' most wv { n with v := v' } r ∧ Kept Sv w w' ∧ ∀ j, Sv' j → Sv j ∨ w.heap.size ≤ j := by
  obtain ⟨Sv', d', h1, h2, h3⟩ := h.pt.vol hV hg hk'
  exact ⟨Sv', d', ⟨h1, h.blk.kept h2 (h.pt.ov g h.og), h.map.kept h2 (h.pt.ov b h.ob), h.hel.kept h2 (h.pt.ov q h.oq), h.og, h.ob, h.oq⟩, h2, h3⟩
end
/-- A node in memory; S: its blocks, behind B; r: how many requests there is room for. -/
def NodeZ (w : World) (B g : Nat) (S : Nat → Prop) (n : NodeP) (r : Nat) : Prop :=
  ∃ b q So Sv St vg p tg d k most wv, ZAt w B g b q So Sv St vg p tg d k most wv n r ∧ ∀ j, S j ↔ So j ∨ Sv j ∨ St j
section
variable {w w' : World} {B B' g : Nat} {S : Nat → Prop} {n : NodeP} {r : Nat}
theorem NodeZ.kept {T : Nat → Prop} (h : NodeZ w B g S n r) (hk : Kept T w w') (hT : ∀ k, S k → ¬ T k) : NodeZ w' B g S n r := by
  obtain ⟨b, q, So, Sv, St, vg, p, tg, d, k, most, wv, h1, h2⟩ := h
  exact ⟨b, q, So, Sv, St, vg, p, tg, d, k, most, wv, h1.kept hk (fun j hj => hT j ((h2 j).2 hj)), h2⟩
theorem NodeZ.at (h : NodeZ w B g S n r) : ∀ k, S k → B ≤ k ∧ k < w.heap.size := by
  obtain ⟨b, q, So, Sv, St, vg, p, tg, d, k, most, wv, h1, h2⟩ := h
  exact fun k hk => h1.pt.at ((h2 k).1 hk)
theorem NodeZ.less {r' : Nat} (h : NodeZ w B g S n r) (hr : r' ≤ r) : NodeZ w B g S n r' := by
  obtain ⟨b, q, So, Sv, St, vg, p, tg, d, k, most, wv, h1, h2⟩ := h
  exact ⟨b, q, So, Sv, St, vg, p, tg, d, k, most, wv, h1.less hr, h2⟩
theorem NodeZ.below (h : NodeZ w B g S n r) (hb : Below w.heap.size w w') : NodeZ w' B g S n r :=
  h.kept (T := fun _ => False) (Kept.of_below hb (Nat.le_refl _)) (fun _ _ h => h)
end
/-- One without volumes: its disk is new. -/
structure Z0At (w : World) (B g b p tg : Nat) (St : Nat → Prop) (place : Int) (cap : Nat) : Prop where
  blk : Blk w g (zcells p b tg place 0) 68
  map : Vm0 w b
  dk : Dk w p (fun x => x = p) (newD cap) 0
  tb : Tb w B tg St 4096 []
  lo : B ≤ g ∧ B ≤ b ∧ B ≤ p
  gb : g ≠ b
  gp : g ≠ p
  bp : b ≠ p
  gt : ¬ St g
  bt : ¬ St b
  pt : ¬ St p
def Node0 (w : World) (B g : Nat) (S : Nat → Prop) (place : Int) (cap : Nat) : Prop :=
  ∃ b p tg St, Z0At w B g b p tg St place cap ∧ ∀ j, S j ↔ j = g ∨ j = b ∨ j = p ∨ St j
theorem Tb.at {w : World} {B g : Nat} {S : Nat → Prop} {most : Int} {L : List Msg} (h : Tb w B g S most L) {j : Nat} (hj : S j) : B ≤ j ∧ j < w.heap.size := by
  obtain ⟨b0, l0, h1, h2, h3, h4, h5, h6⟩ := h
  exact h6 j hj
theorem Z0At.at {w : World} {B g b p tg : Nat} {St : Nat → Prop} {place : Int} {cap : Nat} (h : Z0At w B g b p tg St place cap) {j : Nat} (hj : j = g ∨ j = b ∨ j = p ∨ St j) : B ≤ j ∧ j < w.heap.size := by
  rcases hj with rfl | rfl | rfl | hj
  · exact ⟨h.lo.1, h.blk.lt⟩
  · exact ⟨h.lo.2.1, World.ownsMap.lt h.map⟩
  · exact ⟨h.lo.2.2, h.dk.lt _ rfl⟩
  · exact h.tb.at hj
theorem Node0.at {w : World} {B g : Nat} {S : Nat → Prop} {place : Int} {cap : Nat} (h : Node0 w B g S place cap) : ∀ k, S k → B ≤ k ∧ k < w.heap.size := by
  obtain ⟨b, p, tg, St, h1, h2⟩ := h
  exact fun k hk => h1.at ((h2 k).1 hk)
end Go.Proofs.YtllbngopfganjaaGreatDoor.Nd
end

section
namespace Go.Proofs.YtllbngopfganjaaGreatDoor.Nd
open Go.RowKit Go.Cor

theorem fs_newZ (cap : Nat) (hc : cap ≤ 1073741824) : Fs (newD cap) 0 := ⟨rfl, ⟨hc, List.Pairwise.nil, List.Pairwise.nil, (fun e he => by cases he), (fun e he => by cases he), (fun e he => by cases he), (fun e he => by cases he), Nat.le_refl _, Nat.le_refl _, Nat.le_refl _, (fun n hn => by cases hn)⟩, List.Pairwise.nil⟩
theorem view_newZ (cap : Nat) (m : ByteArray) : view (newD cap) m = none := rfl
/-- The disk isn't down. -/
def UpD (w : World) (p : Nat) : Prop := Calls Tryz.prog 31 #[.pointer (some ⟨p, 0, none⟩)] w fun e w' => e = .returned (.bool false) ∧ w = w'
theorem UpD.of {w : World} {p k : Nat} {S : Nat → Prop} {d : Dsk} (h : Dk w p S d k) (hu : d.armed = none) : UpD w p := by
  have h1 := down_u w p S d k h
  rw [show isDown d.armed = false by rw [hu]; rfl] at h1
  exact h1
theorem UpD.vl {w : World} {vg p k : Nat} {S : Nat → Prop} {d : Dsk} {s : Vst} (h : Vl w vg p S d k s) (hl : Lies d k s) : UpD w p := by
  obtain ⟨x, v, Sd, h1, h2⟩ := h
  exact UpD.of h1.dk hl.fs.up
section
variable {w : World} {g p b q tg vg : Nat} {place life : Int}
set_option maxRecDepth 100000 in
theorem look_at (hb : Blk w g (zcells p b tg place life) 68) (hd : UpD w p) :
    Calls Tryz.prog 19 #[.pointer (some ⟨g, 0, none⟩)] w fun e w' => e = .returned (.tuple #[]) ∧ w = w' := by
  have c1 : w.cell? ⟨g, 1, none⟩ = some (.pointer (some ⟨p, 0, none⟩)) := hb.cell 1 rfl
  have HD := Lib.hid hd
  clear hd hb
  go_enter Tryz.func19, Tryz.ntmps19
  go_wp2_with fail
  refine HD.out.mono ?_
  rintro e wx ⟨rfl, rfl⟩
  go_wp2
  go_end0
  exact ⟨rfl, rfl⟩
set_option maxRecDepth 100000 in
theorem look_deferred (u : FrameMode) (hb : Blk w g (zcells p b tg place life) 68) (hd : UpD w p) :
    CallsD Tryz.prog 19 #[.pointer (some ⟨g, 0, none⟩)] u w fun e u' w' => u' = u ∧ (e = .returned (.tuple #[]) ∧ w = w') := by
  have c1 : w.cell? ⟨g, 1, none⟩ = some (.pointer (some ⟨p, 0, none⟩)) := hb.cell 1 rfl
  have HD := Lib.hid hd
  clear hd hb
  go_enter_d Tryz.func19, Tryz.ntmps19
  go_wp2_with fail
  refine HD.out.mono ?_
  rintro e wx ⟨rfl, rfl⟩
  go_wp2
  go_end0
  exact ⟨rfl, rfl⟩
set_option maxRecDepth 100000 in
theorem up_at (hb : Blk w g (zcells p b tg place life) 68) (hd : UpD w p) :
    Calls Tryz.prog 26 #[.pointer (some ⟨g, 0, none⟩)] w fun e w' => e = .returned (.bool true) ∧ w = w' := by
  have c3 : w.cell? ⟨g, 3, none⟩ = some (.bool true) := hb.cell 3 rfl
  have HL := Lib.hid (look_at hb hd)
  clear hd hb
  go_enter Tryz.func26, Tryz.ntmps26
  go_wp2_with fail
  refine HL.out.mono ?_
  rintro e wx ⟨rfl, rfl⟩
  go_wp2
  go_ret
  exact ⟨rfl, rfl⟩
set_option maxRecDepth 100000 in
theorem serves_at (hb : Blk w g (zcells p b tg place life) 68) (hd : UpD w p) :
    Calls Tryz.prog 18 #[.pointer (some ⟨g, 0, none⟩)] w fun e w' => e = .returned .nilIface ∧ w = w' := by
  have HL := Lib.hid (up_at hb hd)
  clear hd hb
  go_enter Tryz.func18, Tryz.ntmps18
  go_wp2_with fail
  refine HL.out.mono ?_
  rintro e wx ⟨rfl, rfl⟩
  go_wp2
  go_ret
  exact ⟨rfl, rfl⟩
set_option maxRecDepth 100000 in
theorem life_at (hb : Blk w g (zcells p b tg place life) 68) :
    Calls Tryz.prog 14 #[.pointer (some ⟨g, 0, none⟩)] w fun e w' => e = .returned (.int .i64 life) ∧ w = w' := by
  have c2 : w.cell? ⟨g, 2, none⟩ = some (.int .i64 life) := hb.cell 2 rfl
  clear hb
  go_enter Tryz.func14, Tryz.ntmps14
  go_wp2
  go_ret
  exact ⟨rfl, rfl⟩
set_option maxRecDepth 100000 in
theorem vol_yes {most : Int} {wv : Value} (hb : Blk w g (zcells p b tg place life) 68) (hm : Vm1 w b q) (hh : Blk w q (hcells vg most wv) 75) :
    Calls Tryz.prog 10 #[.pointer (some ⟨g, 0, none⟩), .int .i64 1] w fun e w' => e = .returned (.pointer (some ⟨vg, 0, none⟩)) ∧ w = w' := by
  have c4 : w.cell? ⟨g, 4, none⟩ = some (.map (some b)) := hb.cell 4 rfl
  have c0 : w.cell? ⟨q, 0, none⟩ = some (.pointer (some ⟨vg, 0, none⟩)) := hh.cell 0 rfl
  have hlk := hm.look_yes
  clear hb hm hh
  go_enter Tryz.func10, Tryz.ntmps10
  go_wp2
  go_ret
  exact ⟨rfl, rfl⟩
set_option maxRecDepth 100000 in
theorem vol_no {a : Int} (hb : Blk w g (zcells p b tg place life) 68) (hm : Vm1 w b q) (ha : wfI a) (h1 : a ≠ 1) :
    Calls Tryz.prog 10 #[.pointer (some ⟨g, 0, none⟩), .int .i64 a] w fun e w' => e = .returned (.pointer none) ∧ w = w' := by
  have c4 : w.cell? ⟨g, 4, none⟩ = some (.map (some b)) := hb.cell 4 rfl
  have hlk := hm.look_no ha h1
  clear hb hm ha h1
  go_enter Tryz.func10, Tryz.ntmps10
  go_wp2
  go_ret
  exact ⟨rfl, rfl⟩
end
theorem zlife {w : World} {B g : Nat} {S : Nat → Prop} {n : NodeP} {r : Nat} (h : NodeZ w B g S n r) :
    Calls Tryz.prog 14 #[.pointer (some ⟨g, 0, none⟩)] w fun e w' => e = .returned (.int .i64 n.life) ∧ w = w' := by
  obtain ⟨b, q, So, Sv, St, vg, p, tg, d, k, most, wv, h1, h2⟩ := h
  exact life_at h1.blk
theorem zvol {w : World} {B g : Nat} {S : Nat → Prop} {n : NodeP} {r : Nat} (h : NodeZ w B g S n r) :
    ∃ vg : Nat, (∀ wx, Below w.heap.size w wx → Calls Tryz.prog 10 #[.pointer (some ⟨g, 0, none⟩), .int .i64 1] wx fun e w' => e = .returned (.pointer (some ⟨vg, 0, none⟩)) ∧ Below wx.heap.size wx w') ∧
      ∀ wx, Below w.heap.size w wx → Calls Tryz.prog 11 #[.pointer (some ⟨vg, 0, none⟩)] wx fun e w' => e = .returned (infoV n.v) ∧ Below wx.heap.size wx w' := by
  obtain ⟨b, q, So, Sv, St, vg, p, tg, d, k, most, wv, h1, h2⟩ := h
  refine ⟨vg, fun wx hb => ?_, fun wx hb => ?_⟩
  · have h3 := h1.below hb
    exact (vol_yes h3.blk h3.map h3.hel).mono fun e w' ⟨h4, h5⟩ => ⟨h4, by rw [← h5]; exact Below.refl _ _⟩
  · have h3 := h1.below hb
    exact info_v vg p k Sv d n.v wx h3.pt.vr
set_option maxRecDepth 100000 in
theorem znew_bad (place cap : Int) (w : World) (h : ¬ (0 ≤ place ∧ place ≤ 255)) :
    Calls Tryz.prog 6 #[.int .i64 place, .int .i64 cap] w fun e w' => e = .returned (.tuple #[.pointer none, err 1]) ∧ Below w.heap.size w w' := by
  by_cases h1 : place < 0
  · clear h
    go_enter Tryz.func6, Tryz.ntmps6
    go_wp2
    go_ret2
    exact ⟨rfl, Below.refl _ _⟩
  · have h2 : place > 255 := by omega
    clear h
    go_enter Tryz.func6, Tryz.ntmps6
    go_wp2
    go_ret2
    exact ⟨rfl, Below.refl _ _⟩
set_option maxRecDepth 100000 in
set_option maxHeartbeats 1000000 in
theorem znew (place : Int) (cap : Nat) (w : World) (h : 0 ≤ place ∧ place ≤ 255) (hc : 1 ≤ cap) (hc2 : cap ≤ 1048576) :
    Calls Tryz.prog 6 #[.int .i64 place, .int .i64 (cap : Int)] w fun e w' => ∃ g S, e = .returned (.tuple #[.pointer (some ⟨g, 0, none⟩), .nilIface]) ∧ Node0 w' w.heap.size g S place cap ∧ Below w.heap.size w w' := by
  have h1 : ¬ place < 0 := by omega
  have h2 : ¬ place > 255 := by omega
  have hmm := @run_makeMap Tryz.prog
  have hcc : cap ≤ 1073741824 := by omega
  clear h hc hc2
  go_enter Tryz.func6, Tryz.ntmps6
  go_wp2_with fail
  refine (new_u cap w hcc).mono ?_
  rintro e w1 ⟨p, rfl, hdk, hp, hb1⟩
  have HDK := Lib.hid hdk
  have HP := Lib.hid hp
  have HB1 := Lib.hid hb1
  clear hdk hp hb1 hcc
  go_wp2_with fail
  refine (onew_tb 4096 w1 (by decide)).mono ?_
  rintro e w2 ⟨tg, St, rfl, htb, hb2⟩
  have hdk2 := HDK.out.below hb2 (Nat.le_refl _)
  obtain ⟨w3, hw3⟩ : ∃ z, w2.alloc (.map #[] 0) = z := ⟨_, rfl⟩
  obtain ⟨w4, hw4⟩ : ∃ z, w3.alloc (.cells (zcells p w2.heap.size tg place 0) 68) = z := ⟨_, rfl⟩
  have hs3 : w3.heap.size = w2.heap.size + 1 := by rw [← hw3]; simp
  have hB3 : Below w2.heap.size w2 w3 := by rw [← hw3]; exact below_new16 w2 _
  have hB4 : Below w3.heap.size w3 w4 := by rw [← hw4]; exact below_new16 w3 _
  have hm3 : Vm0 w3 w2.heap.size := by rw [← hw3]; exact Vm0.made w2
  have hx4 : Blk w4 w3.heap.size (zcells p w2.heap.size tg place 0) 68 := by rw [← hw4]; exact Blk.new w3 _ _
  have hB24 : Below w2.heap.size w2 w4 := hB3.trans (hB4.mono (by omega))
  have hpl := HDK.out.lt p rfl
  have hb1s := HB1.out.size
  have hb2s := hb2.size
  have hfin : Node0 w4 w.heap.size w3.heap.size (fun j => j = w3.heap.size ∨ j = w2.heap.size ∨ j = p ∨ St j) place cap :=
    ⟨w2.heap.size, p, tg, St, ⟨hx4, hm3.kept (T := fun _ => False) (Kept.of_below hB4 (Nat.le_refl _)) (fun h => h), hdk2.below hB24 (Nat.le_refl _), by
      have := htb.below hB24
      obtain ⟨b0, l0, k1, k2, k3, k4, k5, k6⟩ := this
      exact ⟨b0, l0, k1, k2, k3, k4, k5, fun k hk => ⟨by have := (k6 k hk).1; omega, (k6 k hk).2⟩⟩, ⟨by omega, by omega, HP.out⟩, by omega, by omega, by omega, fun e => by have := (htb.at e).2; omega, fun e => by have := (htb.at e).2; omega, fun e => by have := (htb.at e).1; omega⟩, fun j => Iff.rfl⟩
  have hbel : Below w.heap.size w w4 := HB1.out.trans ((hb2.trans (hB24.mono hb2s)).mono hb1s)
  have HF := Lib.hid hfin
  have HBL := Lib.hid hbel
  unfold zcells at hw4
  clear hfin hbel hx4 hm3 hB3 hB4 hB24 hdk2 htb hb2 hpl hb1s hb2s
  rw [hs3] at HF
  go_wp2
  go_ret2
  subst hw3
  subst hw4
  exact ⟨_, _, rfl, HF.out, HBL.out⟩

end Go.Proofs.YtllbngopfganjaaGreatDoor.Nd
end

section
namespace Go.Proofs.YtllbngopfganjaaGreatDoor.Nd
open Go.RowKit Go.Cor

set_option maxRecDepth 100000 in
set_option maxHeartbeats 1000000 in
theorem zmake {w : World} {B g : Nat} {S : Nat → Prop} {place : Int} {cap : Nat} (h : Node0 w B g S place cap) (most r : Nat) (hm : 16 ≤ most) (hm2 : most ≤ 1048576) (hr : 100 + 400 * r ≤ cap) (hr2 : r ≤ 300) :
    Calls Tryz.prog 7 #[.pointer (some ⟨g, 0, none⟩), .int .i64 1, .int .i64 (most : Int)] w fun e w' => e = .returned .nilIface ∧ ∃ S', NodeZ w' B g S' ⟨place, 0, vst0 1 most 0, []⟩ r ∧ (∀ k, S' k → S k ∨ w.heap.size ≤ k) ∧ Kept S w w' := by
  obtain ⟨b, p, tg, St, h1, hS⟩ := h
  have hcc : cap ≤ 1073741824 := h1.dk.ok.cap
  have c1 : w.cell? ⟨g, 1, none⟩ = some (.pointer (some ⟨p, 0, none⟩)) := h1.blk.cell 1 rfl
  have HS := Lib.hid (serves_at h1.blk (UpD.of h1.dk rfl))
  have HM := Lib.hid (make_v 1 most 0 p 0 (fun b => b = p) (newD cap) w h1.dk (by decide) (fs_newZ cap hcc) (by decide) (by decide) hm (by omega) (by decide) (view_newZ _ _) (view_newZ _ _) (view_newZ _ _) (show 0 < 60 by decide) (by show 0 + 40 ≤ cap; omega))
  have H1 := Lib.hid h1
  have HSS := Lib.hid hS
  have HR := Lib.hid hr
  have HR2 := Lib.hid hr2
  have hmm := @run_makeMap Tryz.prog
  clear h1 hS hcc hm hm2 hr hr2
  go_enter_defers Tryz.func7, Tryz.ntmps7
  go_wp2_with fail
  refine HS.out.mono ?_
  rintro e wx ⟨rfl, rfl⟩
  go_wp2_with fail
  refine HM.out.mono ?_
  rintro e w1 ⟨vg, rfl, Sv, d', hvl, hk, hSv, hvg, hlies, hok, hcap, hnow, hused, hview⟩
  clear c1 hview
  have h1 := H1.out
  have hg1 := h1.blk.kept hk h1.gp
  have hm1 := h1.map.kept hk h1.bp
  have ht1 := h1.tb.kept hk (fun j hj e => h1.pt (e ▸ hj))
  have c4 : w1.cell? ⟨g, 4, none⟩ = some (.map (some b)) := hg1.cell 4 rfl
  have hb3 : Below w1.heap.size w1 ((w1.alloc (.map #[] 0)).alloc (.cells (hcells vg (most : Int) (.map (some w1.heap.size))) 75)) := (below_new16 w1 _).trans ((below_new16 _ _).mono (by simp))
  have hs3 : ((w1.alloc (.map #[] 0)).alloc (.cells (hcells vg (most : Int) (.map (some w1.heap.size))) 75)).heap.size = w1.heap.size + 1 + 1 := by simp
  have hx3 : Blk ((w1.alloc (.map #[] 0)).alloc (.cells (hcells vg (most : Int) (.map (some w1.heap.size))) 75)) (w1.heap.size + 1) (hcells vg (most : Int) (.map (some w1.heap.size))) 75 := by
    have := Blk.new (w1.alloc (.map #[] 0)) (hcells vg (most : Int) (.map (some w1.heap.size))) 75
    rwa [show (w1.alloc (.map #[] 0)).heap.size = w1.heap.size + 1 by simp] at this
  have hb3k : Kept (fun _ => False) w1 ((w1.alloc (.map #[] 0)).alloc (.cells (hcells vg (most : Int) (.map (some w1.heap.size))) 75)) := Kept.of_below hb3 (Nat.le_refl _)
  have hbl : b < w1.heap.size := World.ownsMap.lt hm1
  obtain ⟨w4, hup, hv4, hk4⟩ := (hm1.kept hb3k (fun h => h)).store (w1.heap.size + 1)
  have hk14 : Kept (fun j => j = b) w1 w4 := (hb3k.mono (T := fun j => j = b) (fun _ _ h => h.elim)).trans hk4 (fun j hj _ => hj)
  have hws : w.heap.size ≤ w1.heap.size := hk.size
  have hbw : b < w.heap.size := (h1.at (.inr (.inl rfl))).2
  have hgw : g < w.heap.size := (h1.at (.inl rfl)).2
  have hSvb : ∀ j, Sv j → j ≠ b := fun j hj e => by
    rcases hSv j hj with h5 | h5
    · exact h1.bp (e.symm.trans h5)
    · omega
  have hSvg : ∀ j, Sv j → j ≠ g := fun j hj e => by
    rcases hSv j hj with h5 | h5
    · exact h1.gp (e.symm.trans h5)
    · omega
  have hvlt := hvl.lt
  have hz : ZAt w4 B g b (w1.heap.size + 1) (fun j => j = g ∨ j = b ∨ j = w1.heap.size + 1) Sv St vg p tg d' 16 (most : Int) (.map (some w1.heap.size)) ⟨place, 0, vst0 1 most 0, []⟩ r := by
    refine ⟨⟨⟨hvl.kept hk14 hSvb, hlies, hok, by decide, by rw [hnow]; show 0 + 2 < 60; decide⟩, ht1.kept hk14 (fun j hj e => h1.bt (e ▸ hj)), fun j hj e => ?_, fun j hj e => ?_, fun j hj e => ?_, fun j hj => ?_, fun j hj => ?_, ?_, ?_, ?_, ?_⟩, hg1.kept hk14 h1.gb, hv4, ?_, .inl rfl, .inr (.inl rfl), .inr (.inr rfl)⟩
    · rcases hj with rfl | rfl | rfl
      · exact hSvg _ e rfl
      · exact hSvb _ e rfl
      · have := hvlt _ e; omega
    · rcases hj with rfl | rfl | rfl
      · exact h1.gt e
      · exact h1.bt e
      · have := (h1.tb.at e).2; omega
    · rcases hSv j hj with rfl | h5
      · exact h1.pt e
      · have := (h1.tb.at e).2; omega
    · rcases hSv j hj with rfl | h5
      · exact h1.lo.2.2
      · have := h1.lo.2.2
        have := h1.dk.lt p rfl
        omega
    · have hs4 : w1.heap.size + 1 + 1 ≤ w4.heap.size := by have := hk4.size; rw [hs3] at this; exact this
      have := h1.lo
      rcases hj with rfl | rfl | rfl <;> constructor <;> omega
    · rw [hused, hcap]
      show 0 + 40 + 400 * r ≤ cap
      have := HR.out
      omega
    · show 0 + r < 4096
      have := HR2.out
      omega
    · have := HR2.out
      omega
    · show 0 + r ≤ 4096
      have := HR2.out
      omega
    · exact hx3.kept hk4 (by omega)
  have hK : Kept S w w4 := (hk.mono (T := S) (fun j _ hj => (HSS.out j).2 (.inr (.inr (.inl hj))))).trans hk14 (fun j hj _ => (HSS.out j).2 (.inr (.inl hj)))
  have hS' : ∀ j, (j = g ∨ j = b ∨ j = w1.heap.size + 1) ∨ Sv j ∨ St j → S j ∨ w.heap.size ≤ j := fun j hj => by
    rcases hj with (rfl | rfl | rfl) | h5 | h5
    · exact .inl ((HSS.out _).2 (.inl rfl))
    · exact .inl ((HSS.out _).2 (.inr (.inl rfl)))
    · exact .inr (by omega)
    · rcases hSv j h5 with h6 | h6
      · exact .inl ((HSS.out _).2 (.inr (.inr (.inl h6))))
      · exact .inr h6
    · exact .inl ((HSS.out _).2 (.inr (.inr (.inr h5))))
  have HZ := Lib.hid hz
  have HK := Lib.hid hK
  have HS' := Lib.hid hS'
  clear hz hK hS' hvlt hSvg hSvb hgw hbw hws hk14 hk4 hv4 hbl hb3k hx3 hs3 hb3 ht1 hm1 hg1 h1 hvl hk hSv hvg hlies hok hcap hnow hused
  unfold hcells at hup
  go_wp2
  refine leaves_cons (f := 19) (args := #[.pointer (some ⟨g, 0, none⟩)]) (by simp) (by simp [go_sem]) ?_
  refine (look_deferred .returning HZ.out.blk (UpD.vl HZ.out.pt.vr.vl HZ.out.pt.vr.lies)).mono ?_
  rintro e u' w'' ⟨rfl, rfl, rfl⟩
  exact ⟨_, results_tmp rfl _ _ _, rfl, _, ⟨b, _, _, _, _, _, _, _, _, _, _, _, HZ.out, fun j => Iff.rfl⟩, HS'.out, HK.out⟩

end Go.Proofs.YtllbngopfganjaaGreatDoor.Nd
end

section
namespace Go.Proofs.YtllbngopfganjaaGreatDoor.Nd
open Go.RowKit Go.Cor

set_option maxRecDepth 100000 in
set_option maxHeartbeats 4000000 in
theorem wsame_v0 (a b : Msg) (va vb : Value) (w : World) (ha : IsB w va a.n.data) (hb : IsB w vb b.n.data) :
    Calls Tryz.prog 13 #[mval a va, mval b vb] w fun e w' => e = .returned (.bool (sameM a b)) ∧ Below w.heap.size w w' := by
  obtain ⟨fr1, tt1, kd1, vo1, li1, id1, co1, has1, n1⟩ := a
  obtain ⟨fr2, tt2, kd2, vo2, li2, id2, co2, has2, n2⟩ := b
  dsimp only at ha hb
  have HSM := Lib.hid (fun wx (hx : Below w.heap.size w wx) => nsame_any n1 n2 va vb wx (ha.mono hx (Nat.le_refl _)) (hb.mono hx (Nat.le_refl _)))
  obtain ⟨B, hB⟩ : ∃ B, sameN n1 n2 = B := ⟨_, rfl⟩
  rw [hB] at HSM
  have HN := Lib.hid hB
  obtain ⟨key1, cookie1, gone1, data1⟩ := n1
  obtain ⟨key2, cookie2, gone2, data2⟩ := n2
  obtain ⟨L1, hL1⟩ : ∃ L, data1.length = L := ⟨_, rfl⟩
  obtain ⟨L2, hL2⟩ : ∃ L, data2.length = L := ⟨_, rfl⟩
  obtain ⟨x1, k1, rfl, _, _⟩ := ha.at_len hL1
  obtain ⟨x2, k2, rfl, _, _⟩ := hb.at_len hL2
  clear ha hb hB hL1 hL2
  by_cases c0 : fr1 = fr2
  case neg =>
    have hs : ∀ n1 n2, sameM ⟨fr1, tt1, kd1, vo1, li1, id1, co1, has1, n1⟩ ⟨fr2, tt2, kd2, vo2, li2, id2, co2, has2, n2⟩ = false := fun n1 n2 => by unfold sameM; simp [c0]
    have HB := Lib.hid (((Below.refl w.heap.size w).alloc (Nat.le_refl _) (.cells #[.int .i64 fr1, .int .i64 tt1, .int .i64 kd1, .int .i64 vo1, .int .i64 li1, .int .u64 (id1 : Int), .int .i64 co1, .bool has1, .int .u64 (key1 : Int), .int .u32 (cookie1 : Int), .bool gone1, .slice x1 L1 k1] 45)).alloc (by simp) (.cells #[.int .i64 fr2, .int .i64 tt2, .int .i64 kd2, .int .i64 vo2, .int .i64 li2, .int .u64 (id2 : Int), .int .i64 co2, .bool has2, .int .u64 (key2 : Int), .int .u32 (cookie2 : Int), .bool gone2, .slice x2 L2 k2] 45))
    have q2 : (fr1 == fr2) = false := beq_eq_false_iff_ne.2 c0
    have HS := Lib.hid hs
    clear hs
    go_enter Tryz.func13, Tryz.ntmps13
    go_wp2
    go_ret
    exact ⟨by rw [HS.out]; rfl, HB.out⟩
  subst c0
  by_cases c1 : tt1 = tt2
  case neg =>
    have hs : ∀ n1 n2, sameM ⟨fr1, tt1, kd1, vo1, li1, id1, co1, has1, n1⟩ ⟨fr1, tt2, kd2, vo2, li2, id2, co2, has2, n2⟩ = false := fun n1 n2 => by unfold sameM; simp [c1]
    have HB := Lib.hid (((Below.refl w.heap.size w).alloc (Nat.le_refl _) (.cells #[.int .i64 fr1, .int .i64 tt1, .int .i64 kd1, .int .i64 vo1, .int .i64 li1, .int .u64 (id1 : Int), .int .i64 co1, .bool has1, .int .u64 (key1 : Int), .int .u32 (cookie1 : Int), .bool gone1, .slice x1 L1 k1] 45)).alloc (by simp) (.cells #[.int .i64 fr1, .int .i64 tt2, .int .i64 kd2, .int .i64 vo2, .int .i64 li2, .int .u64 (id2 : Int), .int .i64 co2, .bool has2, .int .u64 (key2 : Int), .int .u32 (cookie2 : Int), .bool gone2, .slice x2 L2 k2] 45))
    have q2 : (tt1 == tt2) = false := beq_eq_false_iff_ne.2 c1
    have HS := Lib.hid hs
    clear hs
    go_enter Tryz.func13, Tryz.ntmps13
    go_wp2
    go_ret
    exact ⟨by rw [HS.out]; rfl, HB.out⟩
  subst c1
  by_cases c2 : kd1 = kd2
  case neg =>
    have hs : ∀ n1 n2, sameM ⟨fr1, tt1, kd1, vo1, li1, id1, co1, has1, n1⟩ ⟨fr1, tt1, kd2, vo2, li2, id2, co2, has2, n2⟩ = false := fun n1 n2 => by unfold sameM; simp [c2]
    have HB := Lib.hid (((Below.refl w.heap.size w).alloc (Nat.le_refl _) (.cells #[.int .i64 fr1, .int .i64 tt1, .int .i64 kd1, .int .i64 vo1, .int .i64 li1, .int .u64 (id1 : Int), .int .i64 co1, .bool has1, .int .u64 (key1 : Int), .int .u32 (cookie1 : Int), .bool gone1, .slice x1 L1 k1] 45)).alloc (by simp) (.cells #[.int .i64 fr1, .int .i64 tt1, .int .i64 kd2, .int .i64 vo2, .int .i64 li2, .int .u64 (id2 : Int), .int .i64 co2, .bool has2, .int .u64 (key2 : Int), .int .u32 (cookie2 : Int), .bool gone2, .slice x2 L2 k2] 45))
    have q2 : (kd1 == kd2) = false := beq_eq_false_iff_ne.2 c2
    have HS := Lib.hid hs
    clear hs
    go_enter Tryz.func13, Tryz.ntmps13
    go_wp2
    go_ret
    exact ⟨by rw [HS.out]; rfl, HB.out⟩
  subst c2
  by_cases c3 : vo1 = vo2
  case neg =>
    have hs : ∀ n1 n2, sameM ⟨fr1, tt1, kd1, vo1, li1, id1, co1, has1, n1⟩ ⟨fr1, tt1, kd1, vo2, li2, id2, co2, has2, n2⟩ = false := fun n1 n2 => by unfold sameM; simp [c3]
    have HB := Lib.hid (((Below.refl w.heap.size w).alloc (Nat.le_refl _) (.cells #[.int .i64 fr1, .int .i64 tt1, .int .i64 kd1, .int .i64 vo1, .int .i64 li1, .int .u64 (id1 : Int), .int .i64 co1, .bool has1, .int .u64 (key1 : Int), .int .u32 (cookie1 : Int), .bool gone1, .slice x1 L1 k1] 45)).alloc (by simp) (.cells #[.int .i64 fr1, .int .i64 tt1, .int .i64 kd1, .int .i64 vo2, .int .i64 li2, .int .u64 (id2 : Int), .int .i64 co2, .bool has2, .int .u64 (key2 : Int), .int .u32 (cookie2 : Int), .bool gone2, .slice x2 L2 k2] 45))
    have q2 : (vo1 == vo2) = false := beq_eq_false_iff_ne.2 c3
    have HS := Lib.hid hs
    clear hs
    go_enter Tryz.func13, Tryz.ntmps13
    go_wp2
    go_ret
    exact ⟨by rw [HS.out]; rfl, HB.out⟩
  subst c3
  by_cases c4 : li1 = li2
  case neg =>
    have hs : ∀ n1 n2, sameM ⟨fr1, tt1, kd1, vo1, li1, id1, co1, has1, n1⟩ ⟨fr1, tt1, kd1, vo1, li2, id2, co2, has2, n2⟩ = false := fun n1 n2 => by unfold sameM; simp [c4]
    have HB := Lib.hid (((Below.refl w.heap.size w).alloc (Nat.le_refl _) (.cells #[.int .i64 fr1, .int .i64 tt1, .int .i64 kd1, .int .i64 vo1, .int .i64 li1, .int .u64 (id1 : Int), .int .i64 co1, .bool has1, .int .u64 (key1 : Int), .int .u32 (cookie1 : Int), .bool gone1, .slice x1 L1 k1] 45)).alloc (by simp) (.cells #[.int .i64 fr1, .int .i64 tt1, .int .i64 kd1, .int .i64 vo1, .int .i64 li2, .int .u64 (id2 : Int), .int .i64 co2, .bool has2, .int .u64 (key2 : Int), .int .u32 (cookie2 : Int), .bool gone2, .slice x2 L2 k2] 45))
    have q2 : (li1 == li2) = false := beq_eq_false_iff_ne.2 c4
    have HS := Lib.hid hs
    clear hs
    go_enter Tryz.func13, Tryz.ntmps13
    go_wp2
    go_ret
    exact ⟨by rw [HS.out]; rfl, HB.out⟩
  subst c4
  by_cases c5 : id1 = id2
  case neg =>
    have hs : ∀ n1 n2, sameM ⟨fr1, tt1, kd1, vo1, li1, id1, co1, has1, n1⟩ ⟨fr1, tt1, kd1, vo1, li1, id2, co2, has2, n2⟩ = false := fun n1 n2 => by unfold sameM; simp [c5]
    have HB := Lib.hid (((Below.refl w.heap.size w).alloc (Nat.le_refl _) (.cells #[.int .i64 fr1, .int .i64 tt1, .int .i64 kd1, .int .i64 vo1, .int .i64 li1, .int .u64 (id1 : Int), .int .i64 co1, .bool has1, .int .u64 (key1 : Int), .int .u32 (cookie1 : Int), .bool gone1, .slice x1 L1 k1] 45)).alloc (by simp) (.cells #[.int .i64 fr1, .int .i64 tt1, .int .i64 kd1, .int .i64 vo1, .int .i64 li1, .int .u64 (id2 : Int), .int .i64 co2, .bool has2, .int .u64 (key2 : Int), .int .u32 (cookie2 : Int), .bool gone2, .slice x2 L2 k2] 45))
    have q1 : ¬ (id1 : Int) = (id2 : Int) := by omega
    have q2 : ((id1 : Int) == (id2 : Int)) = false := beq_eq_false_iff_ne.2 q1
    have HS := Lib.hid hs
    clear hs
    go_enter Tryz.func13, Tryz.ntmps13
    go_wp2
    go_ret
    exact ⟨by rw [HS.out]; rfl, HB.out⟩
  subst c5
  by_cases c6 : co1 = co2
  case neg =>
    have hs : ∀ n1 n2, sameM ⟨fr1, tt1, kd1, vo1, li1, id1, co1, has1, n1⟩ ⟨fr1, tt1, kd1, vo1, li1, id1, co2, has2, n2⟩ = false := fun n1 n2 => by unfold sameM; simp [c6]
    have HB := Lib.hid (((Below.refl w.heap.size w).alloc (Nat.le_refl _) (.cells #[.int .i64 fr1, .int .i64 tt1, .int .i64 kd1, .int .i64 vo1, .int .i64 li1, .int .u64 (id1 : Int), .int .i64 co1, .bool has1, .int .u64 (key1 : Int), .int .u32 (cookie1 : Int), .bool gone1, .slice x1 L1 k1] 45)).alloc (by simp) (.cells #[.int .i64 fr1, .int .i64 tt1, .int .i64 kd1, .int .i64 vo1, .int .i64 li1, .int .u64 (id1 : Int), .int .i64 co2, .bool has2, .int .u64 (key2 : Int), .int .u32 (cookie2 : Int), .bool gone2, .slice x2 L2 k2] 45))
    have q2 : (co1 == co2) = false := beq_eq_false_iff_ne.2 c6
    have HS := Lib.hid hs
    clear hs
    go_enter Tryz.func13, Tryz.ntmps13
    go_wp2
    go_ret
    exact ⟨by rw [HS.out]; rfl, HB.out⟩
  subst c6
  by_cases c7 : has1 = has2
  case neg =>
    have hs : ∀ n1 n2, sameM ⟨fr1, tt1, kd1, vo1, li1, id1, co1, has1, n1⟩ ⟨fr1, tt1, kd1, vo1, li1, id1, co1, has2, n2⟩ = false := fun n1 n2 => by unfold sameM; simp [c7]
    have HB := Lib.hid (((Below.refl w.heap.size w).alloc (Nat.le_refl _) (.cells #[.int .i64 fr1, .int .i64 tt1, .int .i64 kd1, .int .i64 vo1, .int .i64 li1, .int .u64 (id1 : Int), .int .i64 co1, .bool has1, .int .u64 (key1 : Int), .int .u32 (cookie1 : Int), .bool gone1, .slice x1 L1 k1] 45)).alloc (by simp) (.cells #[.int .i64 fr1, .int .i64 tt1, .int .i64 kd1, .int .i64 vo1, .int .i64 li1, .int .u64 (id1 : Int), .int .i64 co1, .bool has2, .int .u64 (key2 : Int), .int .u32 (cookie2 : Int), .bool gone2, .slice x2 L2 k2] 45))
    have HS := Lib.hid hs
    clear hs
    cases has1 with
    | true =>
      cases has2 with
      | true => exact absurd rfl c7
      | false =>
        go_enter Tryz.func13, Tryz.ntmps13
        go_wp2
        go_ret
        exact ⟨by rw [HS.out]; rfl, HB.out⟩
    | false =>
      cases has2 with
      | false => exact absurd rfl c7
      | true =>
        go_enter Tryz.func13, Tryz.ntmps13
        go_wp2
        go_ret
        exact ⟨by rw [HS.out]; rfl, HB.out⟩
  subst c7
  have HB := Lib.hid (((Below.refl w.heap.size w).alloc (Nat.le_refl _) (.cells #[.int .i64 fr1, .int .i64 tt1, .int .i64 kd1, .int .i64 vo1, .int .i64 li1, .int .u64 (id1 : Int), .int .i64 co1, .bool has1, .int .u64 (key1 : Int), .int .u32 (cookie1 : Int), .bool gone1, .slice x1 L1 k1] 45)).alloc (by simp) (.cells #[.int .i64 fr1, .int .i64 tt1, .int .i64 kd1, .int .i64 vo1, .int .i64 li1, .int .u64 (id1 : Int), .int .i64 co1, .bool has1, .int .u64 (key2 : Int), .int .u32 (cookie2 : Int), .bool gone2, .slice x2 L2 k2] 45))
  have HS := Lib.hid (show sameM ⟨fr1, tt1, kd1, vo1, li1, id1, co1, has1, ⟨key1, cookie1, gone1, data1⟩⟩ ⟨fr1, tt1, kd1, vo1, li1, id1, co1, has1, ⟨key2, cookie2, gone2, data2⟩⟩ = B by unfold sameM; simp [HN.out])
  cases has1 with
  | true =>
    go_enter Tryz.func13, Tryz.ntmps13
    go_wp2_with fail
    refine (HSM.out _ HB.out).mono ?_
    rintro e w1 ⟨rfl, hb1⟩
    have HB1 := Lib.hid (HB.out.trans (hb1.mono HB.out.size))
    clear hb1
    go_wp2
    go_ret
    exact ⟨by rw [HS.out]; rfl, HB1.out⟩
  | false =>
    go_enter Tryz.func13, Tryz.ntmps13
    go_wp2_with fail
    refine (HSM.out _ HB.out).mono ?_
    rintro e w1 ⟨rfl, hb1⟩
    have HB1 := Lib.hid (HB.out.trans (hb1.mono HB.out.size))
    clear hb1
    go_wp2
    go_ret
    exact ⟨by rw [HS.out]; rfl, HB1.out⟩
theorem wsame_v (a b : Msg) (xa : Option Addr) (La ca : Nat) (xb : Option Addr) (Lb cb : Nat) (w : World) (ha : IsB w (.slice xa La ca) a.n.data) (hb : IsB w (.slice xb Lb cb) b.n.data) :
    Calls Tryz.prog 13 #[mval a (.slice xa La ca), mval b (.slice xb Lb cb)] w fun e w' => e = .returned (.bool (sameM a b)) ∧ Below w.heap.size w w' := wsame_v0 a b _ _ w ha hb
set_option maxRecDepth 100000 in
set_option maxHeartbeats 2000000 in
theorem wreply_f (m : Msg) (x : Option Addr) (L c : Nat) (code : Int) (has : Bool) (n : Ndl) (y : Option Addr) (M k : Nat) (w : World) (hn : IsB w (.slice y M k) n.data) (hl : n.data.length ≤ 1099511627776) :
    Calls Tryz.prog 43 #[mval m (.slice x L c), .int .i64 code, .bool has, nval n (.slice y M k)] w fun e w' => ∃ z q, e = .returned (mval ⟨m.to, m.fr, 5, m.vo, m.li, m.id, code, has, n⟩ (.slice z M q)) ∧ IsB w' (.slice z M q) n.data ∧ (∀ b, liesB (.slice z M q) n.data b → w.heap.size ≤ b) ∧ Below w.heap.size w w' := by
  obtain ⟨fr, tt, kd, vo, li, id, co, hs, key, cookie, gone, data⟩ := m
  obtain ⟨nkey, nck, ngn, nd⟩ := n
  dsimp only at hn hl
  have hM : nd.length = M := by obtain ⟨a, cp, e, _⟩ := hn; cases e; rfl
  have hX := ((Blk.new w #[.int .i64 fr, .int .i64 tt, .int .i64 kd, .int .i64 vo, .int .i64 li, .int .u64 (id : Int), .int .i64 co, .bool hs, .int .u64 (key : Int), .int .u32 (cookie : Int), .bool gone, .slice x L c] 45).alloc (.cells #[.int .u64 (nkey : Int), .int .u32 (nck : Int), .bool ngn, .slice y M k] 43)).alloc (.cells #[.int .i64 0, .int .i64 0, .int .i64 0, .int .i64 0, .int .i64 0, .int .u64 0, .int .i64 0, .bool false, .int .u64 0, .int .u32 0, .bool false, .slice none 0 0] 45)
  have hY := (Blk.new (w.alloc (.cells #[.int .i64 fr, .int .i64 tt, .int .i64 kd, .int .i64 vo, .int .i64 li, .int .u64 (id : Int), .int .i64 co, .bool hs, .int .u64 (key : Int), .int .u32 (cookie : Int), .bool gone, .slice x L c] 45)) #[.int .u64 (nkey : Int), .int .u32 (nck : Int), .bool ngn, .slice y M k] 43).alloc (.cells #[.int .i64 0, .int .i64 0, .int .i64 0, .int .i64 0, .int .i64 0, .int .u64 0, .int .i64 0, .bool false, .int .u64 0, .int .u32 0, .bool false, .slice none 0 0] 45)
  have hZ := Blk.new ((w.alloc (.cells #[.int .i64 fr, .int .i64 tt, .int .i64 kd, .int .i64 vo, .int .i64 li, .int .u64 (id : Int), .int .i64 co, .bool hs, .int .u64 (key : Int), .int .u32 (cookie : Int), .bool gone, .slice x L c] 45)).alloc (.cells #[.int .u64 (nkey : Int), .int .u32 (nck : Int), .bool ngn, .slice y M k] 43)) #[.int .i64 0, .int .i64 0, .int .i64 0, .int .i64 0, .int .i64 0, .int .u64 0, .int .i64 0, .bool false, .int .u64 0, .int .u32 0, .bool false, .slice none 0 0] 45
  rw [show (w.alloc (.cells #[.int .i64 fr, .int .i64 tt, .int .i64 kd, .int .i64 vo, .int .i64 li, .int .u64 (id : Int), .int .i64 co, .bool hs, .int .u64 (key : Int), .int .u32 (cookie : Int), .bool gone, .slice x L c] 45)).heap.size = w.heap.size + 1 by simp] at hY
  rw [show ((w.alloc (.cells #[.int .i64 fr, .int .i64 tt, .int .i64 kd, .int .i64 vo, .int .i64 li, .int .u64 (id : Int), .int .i64 co, .bool hs, .int .u64 (key : Int), .int .u32 (cookie : Int), .bool gone, .slice x L c] 45)).alloc (.cells #[.int .u64 (nkey : Int), .int .u32 (nck : Int), .bool ngn, .slice y M k] 43)).heap.size = w.heap.size + 1 + 1 by simp] at hZ
  have hB := (((Below.refl w.heap.size w).alloc (Nat.le_refl _) (.cells #[.int .i64 fr, .int .i64 tt, .int .i64 kd, .int .i64 vo, .int .i64 li, .int .u64 (id : Int), .int .i64 co, .bool hs, .int .u64 (key : Int), .int .u32 (cookie : Int), .bool gone, .slice x L c] 45)).alloc (by simp) (.cells #[.int .u64 (nkey : Int), .int .u32 (nck : Int), .bool ngn, .slice y M k] 43)).alloc (by simp; omega) (.cells #[.int .i64 0, .int .i64 0, .int .i64 0, .int .i64 0, .int .i64 0, .int .u64 0, .int .i64 0, .bool false, .int .u64 0, .int .u32 0, .bool false, .slice none 0 0] 45)
  have HC := Lib.hid (clone_S (.slice y M k) nd (((w.alloc (.cells #[.int .i64 fr, .int .i64 tt, .int .i64 kd, .int .i64 vo, .int .i64 li, .int .u64 (id : Int), .int .i64 co, .bool hs, .int .u64 (key : Int), .int .u32 (cookie : Int), .bool gone, .slice x L c] 45)).alloc (.cells #[.int .u64 (nkey : Int), .int .u32 (nck : Int), .bool ngn, .slice y M k] 43)).alloc (.cells #[.int .i64 0, .int .i64 0, .int .i64 0, .int .i64 0, .int .i64 0, .int .u64 0, .int .i64 0, .bool false, .int .u64 0, .int .u32 0, .bool false, .slice none 0 0] 45)) M (hn.mono hB (Nat.le_refl _)) hl hM)
  have HX := Lib.hid hX
  have HY := Lib.hid hY
  have HZ := Lib.hid hZ
  have HB := Lib.hid hB
  have HM := Lib.hid hM
  clear hn hl hM hX hY hZ hB
  go_enter Tryz.func43, Tryz.ntmps43
  go_wp2_with fail
  refine HC.out.mono ?_
  rintro e w4 ⟨z, q, rfl, hown, hb4⟩
  have hX4 := HX.out.below hb4 HX.out.lt
  have hY4 := HY.out.below hb4 HY.out.lt
  have hZ4 := HZ.out.below hb4 HZ.out.lt
  have hB4 := HB.out.trans (hb4.mono HB.out.size)
  have hI4 := IsB.own hown HM.out.symm
  have hlo : ∀ b, (Value.slice z M q).ownBlock = some b → w.heap.size + 1 + 1 + 1 ≤ b := fun b e => by have := (hown.lt b e).1; simpa using this
  have q3 := hY4.cell 3 rfl
  have qf := fun j => hY4.free j
  have hX5 := hX4.other (a := ⟨w.heap.size + 1, 3, none⟩) (by simp) (.slice z M q)
  have hY5 := hY4.set 3 (.slice z M q)
  simp at hY5
  have hZ5 := hZ4.other (a := ⟨w.heap.size + 1, 3, none⟩) (by simp) (.slice z M q)
  have hB5 := hB4.setCell (p := ⟨w.heap.size + 1, 3, none⟩) (by simp) (.slice z M q)
  have hI5 := hI4.kept ((Kept.refl (fun j => j = w.heap.size + 1) w4).setCell (p := ⟨w.heap.size + 1, 3, none⟩) (.inl rfl) (.slice z M q)) (fun b hb e => by have := hlo b hb.2; omega)
  obtain ⟨w5, hw5⟩ : ∃ w5, w4.setCell ⟨w.heap.size + 1, 3, none⟩ (.slice z M q) = w5 := ⟨_, rfl⟩
  rw [hw5] at hX5 hY5 hZ5 hB5 hI5
  go_upto_region 2 with fail
  try rw [hw5]
  have HX5 := Lib.hid hX5
  have HY5 := Lib.hid hY5
  have HZ5 := Lib.hid hZ5
  have HB5 := Lib.hid hB5
  have HI5 := Lib.hid hI5
  have HLO := Lib.hid hlo
  have HF := fin12 hZ5 hB5 (by omega) (.int .i64 tt) (.int .i64 fr) (.int .i64 5) (.int .i64 vo) (.int .i64 li) (.int .u64 (id : Int)) (.int .i64 code) (.bool has) (.int .u64 (nkey : Int)) (.int .u32 (nck : Int)) (.bool ngn) (.slice z M q)
  unfold set12 at HF
  have HF := Lib.hid HF
  clear hX4 hY4 hZ4 hB4 hI4 hlo q3 qf hX5 hY5 hZ5 hB5 hI5 hw5 hown hb4
  have p0 := HX5.out.cell 0 rfl
  have p1 := HX5.out.cell 1 rfl
  have p2 := HX5.out.cell 2 rfl
  have p3 := HX5.out.cell 3 rfl
  have p4 := HX5.out.cell 4 rfl
  have p5 := HX5.out.cell 5 rfl
  have p6 := HX5.out.cell 6 rfl
  have p7 := HX5.out.cell 7 rfl
  have p8 := HX5.out.cell 8 rfl
  have p9 := HX5.out.cell 9 rfl
  have p10 := HX5.out.cell 10 rfl
  have p11 := HX5.out.cell 11 rfl
  have q0 := HY5.out.cell 0 rfl
  have q1 := HY5.out.cell 1 rfl
  have q2 := HY5.out.cell 2 rfl
  have q3 := HY5.out.cell 3 rfl
  have z0 := HZ5.out.cell 0 rfl
  have z1 := HZ5.out.cell 1 rfl
  have z2 := HZ5.out.cell 2 rfl
  have z3 := HZ5.out.cell 3 rfl
  have z4 := HZ5.out.cell 4 rfl
  have z5 := HZ5.out.cell 5 rfl
  have z6 := HZ5.out.cell 6 rfl
  have z7 := HZ5.out.cell 7 rfl
  have z8 := HZ5.out.cell 8 rfl
  have z9 := HZ5.out.cell 9 rfl
  have z10 := HZ5.out.cell 10 rfl
  have z11 := HZ5.out.cell 11 rfl
  have zf := fun j => HZ5.out.free j
  go_wp2
  obtain ⟨j0, j1, j2, j3, j4, j5, j6, j7, j8, j9, j10, j11, jb, jk⟩ := HF.out
  refine bodyPost_ret (v := .agg #[.int .i64 tt, .int .i64 fr, .int .i64 5, .int .i64 vo, .int .i64 li, .int .u64 (id : Int), .int .i64 code, .bool has, .int .u64 (nkey : Int), .int .u32 (nck : Int), .bool ngn, .slice z M q]) (by simp [results, Tryz.results43, go_sem, j0, j1, j2, j3, j4, j5, j6, j7, j8, j9, j10, j11]) rfl ⟨z, q, rfl, HI5.out.kept jk (fun b hb e => by have := HLO.out b hb.2; omega), fun b hb => by have := HLO.out b hb.2; omega, jb⟩
end Go.Proofs.YtllbngopfganjaaGreatDoor.Nd
end

section
namespace Go.Proofs.YtllbngopfganjaaGreatDoor.Nd
open Go.RowKit Go.Cor

theorem cell_on17a {w w' : World} {p : Addr} {v : Value} (hb : Below w.heap.size w w') (h : w.cell? p = some v) : w'.cell? p = some v := (hb.cell (cell_lt h)).trans h
theorem as_nilZ (t : Value) (w : World) :
    Calls Tryz.prog 72 #[.nilIface, t] w fun e w' => e = .returned (.bool false) ∧ w = w' := by
  go_enter Tryz.func72, Tryz.ntmps72
  go_wp2
  go_ret
  exact ⟨rfl, rfl⟩
set_option maxRecDepth 100000 in
set_option maxHeartbeats 1000000 in
theorem codeOf_any (k : Nat) (w : World) (hg : laidE w) :
    Calls Tryz.prog 46 #[cerr k] w fun e w' => e = .returned (.int .i64 (k : Int)) ∧ Below w.heap.size w w' := by
  have hbl := below_new16 w (.cells #[.int .i64 0] 59)
  have hbk := Blk.new w #[.int .i64 0] 59
  obtain ⟨w1, hw1⟩ : ∃ z, w.alloc (.cells #[.int .i64 0] 59) = z := ⟨_, rfl⟩
  rw [hw1] at hbl hbk
  by_cases h : k = 0
  · subst h
    rw [cerr_0]
    have c0 := hbk.cell 0 rfl
    have HB := Lib.hid hbl
    clear hbl hbk hg
    go_enter Tryz.func46, Tryz.ntmps46
    go_upto_region 2 with fail
    try rw [hw1]
    go_wp2_with fail
    refine (as_nilZ _ _).mono ?_
    rintro e wx ⟨rfl, rfl⟩
    go_wp2
    go_ret
    exact ⟨rfl, HB.out⟩
  · rw [cerr_pos h]
    have hgl : laidE w1 := cell_on17a hbl hg
    have HA := Lib.hid (as_code (k : Int) ⟨w.heap.size, 0, none⟩ (.int .i64 0) w1 hgl (hbk.cell 0 rfl) (hbk.free 0))
    have HB := Lib.hid hbl
    have HK := Lib.hid hbk
    clear hbl hbk hg hgl h
    go_enter Tryz.func46, Tryz.ntmps46
    go_upto_region 2 with fail
    try rw [hw1]
    go_wp2_with fail
    refine HA.out.mono ?_
    rintro e w2 ⟨rfl, hw2⟩
    have hx := (((HK.out.alloc (.cells #[.pointer (some ⟨w.heap.size, 0, none⟩)] 149)).alloc (.cells #[.pointer (some ⟨5, 149, none⟩), .pointer (some ⟨w1.heap.size, 0, none⟩), .int .u64 150] 195)).alloc (.cells #[.pointer (some ⟨5, 149, none⟩), .pointer (some ⟨w1.heap.size, 0, none⟩), .int .u64 150] 195)).alloc (.cells #[.int .i64 (k : Int)] 59)
    have hb := (((HB.out.alloc (by have := HB.out.size; omega) (.cells #[.pointer (some ⟨w.heap.size, 0, none⟩)] 149)).alloc (by have := HB.out.size; simp; omega) (.cells #[.pointer (some ⟨5, 149, none⟩), .pointer (some ⟨w1.heap.size, 0, none⟩), .int .u64 150] 195)).alloc (by have := HB.out.size; simp; omega) (.cells #[.pointer (some ⟨5, 149, none⟩), .pointer (some ⟨w1.heap.size, 0, none⟩), .int .u64 150] 195)).alloc (by have := HB.out.size; simp; omega) (.cells #[.int .i64 (k : Int)] 59)
    have hx2 := hx.set 0 (.int .i64 (k : Int))
    have hb2 := hb.setCell (p := ⟨w.heap.size, 0, none⟩) (Nat.le_refl _) (.int .i64 (k : Int))
    rw [← hw2] at hx2 hb2
    simp at hx2
    have c0 := hx2.cell 0 rfl
    have HBB := Lib.hid hb2
    clear hx hb hx2 hb2 hw2
    go_wp2
    go_ret
    exact ⟨rfl, HBB.out⟩
set_option maxRecDepth 100000 in
set_option maxHeartbeats 2000000 in
theorem refusal_f (fr tt kd vo li : Int) (id : Nat) (co : Int) (has : Bool) (key ck : Nat) (gn : Bool) (x : Option Addr) (L c : Nat) (code : Int) (w : World) :
    Calls Tryz.prog 22 #[.agg #[.int .i64 fr, .int .i64 tt, .int .i64 kd, .int .i64 vo, .int .i64 li, .int .u64 (id : Int), .int .i64 co, .bool has, .int .u64 (key : Int), .int .u32 (ck : Int), .bool gn, .slice x L c], .int .i64 code] w fun e w' => ∃ z q, e = .returned (mval ⟨tt, fr, 5, vo, li, id, code, false, nz⟩ (.slice z 0 q)) ∧ IsB w' (.slice z 0 q) [] ∧ Below w.heap.size w w' := by
  have hX := (Blk.new w #[.int .i64 fr, .int .i64 tt, .int .i64 kd, .int .i64 vo, .int .i64 li, .int .u64 (id : Int), .int .i64 co, .bool has, .int .u64 (key : Int), .int .u32 (ck : Int), .bool gn, .slice x L c] 45).alloc (.cells #[.int .i64 0, .int .i64 0, .int .i64 0, .int .i64 0, .int .i64 0, .int .u64 0, .int .i64 0, .bool false, .int .u64 0, .int .u32 0, .bool false, .slice none 0 0] 45)
  have hZ := Blk.new (w.alloc (.cells #[.int .i64 fr, .int .i64 tt, .int .i64 kd, .int .i64 vo, .int .i64 li, .int .u64 (id : Int), .int .i64 co, .bool has, .int .u64 (key : Int), .int .u32 (ck : Int), .bool gn, .slice x L c] 45)) #[.int .i64 0, .int .i64 0, .int .i64 0, .int .i64 0, .int .i64 0, .int .u64 0, .int .i64 0, .bool false, .int .u64 0, .int .u32 0, .bool false, .slice none 0 0] 45
  rw [show (w.alloc (.cells #[.int .i64 fr, .int .i64 tt, .int .i64 kd, .int .i64 vo, .int .i64 li, .int .u64 (id : Int), .int .i64 co, .bool has, .int .u64 (key : Int), .int .u32 (ck : Int), .bool gn, .slice x L c] 45)).heap.size = w.heap.size + 1 by simp] at hZ
  have hB := ((Below.refl w.heap.size w).alloc (Nat.le_refl _) (.cells #[.int .i64 fr, .int .i64 tt, .int .i64 kd, .int .i64 vo, .int .i64 li, .int .u64 (id : Int), .int .i64 co, .bool has, .int .u64 (key : Int), .int .u32 (ck : Int), .bool gn, .slice x L c] 45)).alloc (by simp) (.cells #[.int .i64 0, .int .i64 0, .int .i64 0, .int .i64 0, .int .i64 0, .int .u64 0, .int .i64 0, .bool false, .int .u64 0, .int .u32 0, .bool false, .slice none 0 0] 45)
  obtain ⟨w2, hw2⟩ : ∃ z, ((w.alloc (.cells #[.int .i64 fr, .int .i64 tt, .int .i64 kd, .int .i64 vo, .int .i64 li, .int .u64 (id : Int), .int .i64 co, .bool has, .int .u64 (key : Int), .int .u32 (ck : Int), .bool gn, .slice x L c] 45)).alloc (.cells #[.int .i64 0, .int .i64 0, .int .i64 0, .int .i64 0, .int .i64 0, .int .u64 0, .int .i64 0, .bool false, .int .u64 0, .int .u32 0, .bool false, .slice none 0 0] 45)) = z := ⟨_, rfl⟩
  rw [hw2] at hX hZ hB
  have p0 := hX.cell 0 rfl
  have p1 := hX.cell 1 rfl
  have p2 := hX.cell 2 rfl
  have p3 := hX.cell 3 rfl
  have p4 := hX.cell 4 rfl
  have p5 := hX.cell 5 rfl
  have p6 := hX.cell 6 rfl
  have p7 := hX.cell 7 rfl
  have p8 := hX.cell 8 rfl
  have p9 := hX.cell 9 rfl
  have p10 := hX.cell 10 rfl
  have p11 := hX.cell 11 rfl
  have HZ := Lib.hid hZ
  have HB := Lib.hid hB
  have HRP := Lib.hid (show Calls Tryz.prog 43 #[.agg #[.int .i64 fr, .int .i64 tt, .int .i64 kd, .int .i64 vo, .int .i64 li, .int .u64 (id : Int), .int .i64 co, .bool has, .int .u64 (key : Int), .int .u32 (ck : Int), .bool gn, .slice x L c], .int .i64 code, .bool false, .agg #[.int .u64 0, .int .u32 0, .bool false, .slice none 0 0]] w2 fun e w' => ∃ z q, e = .returned (.agg #[.int .i64 tt, .int .i64 fr, .int .i64 5, .int .i64 vo, .int .i64 li, .int .u64 (id : Int), .int .i64 code, .bool false, .int .u64 0, .int .u32 0, .bool false, .slice z 0 q]) ∧ IsB w' (.slice z 0 q) [] ∧ Below w2.heap.size w2 w' from
    (wreply_f ⟨fr, tt, kd, vo, li, id, co, has, ⟨key, ck, gn, []⟩⟩ x L c code false nz none 0 0 w2 (IsB.nil _) (by decide)).mono fun e w' ⟨z, q, h1, h2, h3, h4⟩ => ⟨z, q, h1, h2, h4⟩)
  clear hX hZ hB
  go_enter Tryz.func22, Tryz.ntmps22
  go_upto_region 1 with fail
  try rw [hw2]
  go_wp2_with fail
  refine HRP.out.mono ?_
  rintro e w3 ⟨z, q, rfl, hi, hb3⟩
  have hZ3 := HZ.out.below hb3 HZ.out.lt
  have hB3 := HB.out.trans (hb3.mono HB.out.size)
  have hI3 := hi
  have HF := fin12 hZ3 hB3 (by omega) (.int .i64 tt) (.int .i64 fr) (.int .i64 5) (.int .i64 vo) (.int .i64 li) (.int .u64 (id : Int)) (.int .i64 code) (.bool false) (.int .u64 0) (.int .u32 0) (.bool false) (.slice z 0 q)
  unfold set12 at HF
  have HF := Lib.hid HF
  have HI := Lib.hid hi
  have z0 := hZ3.cell 0 rfl
  have z1 := hZ3.cell 1 rfl
  have z2 := hZ3.cell 2 rfl
  have z3 := hZ3.cell 3 rfl
  have z4 := hZ3.cell 4 rfl
  have z5 := hZ3.cell 5 rfl
  have z6 := hZ3.cell 6 rfl
  have z7 := hZ3.cell 7 rfl
  have z8 := hZ3.cell 8 rfl
  have z9 := hZ3.cell 9 rfl
  have z10 := hZ3.cell 10 rfl
  have z11 := hZ3.cell 11 rfl
  have zf := fun j => hZ3.free j
  clear hZ3 hB3 hI3 hi hb3 p0 p1 p2 p3 p4 p5 p6 p7 p8 p9 p10 p11
  go_wp2
  obtain ⟨j0, j1, j2, j3, j4, j5, j6, j7, j8, j9, j10, j11, jb, jk⟩ := HF.out
  refine bodyPost_ret (v := .agg #[.int .i64 tt, .int .i64 fr, .int .i64 5, .int .i64 vo, .int .i64 li, .int .u64 (id : Int), .int .i64 code, .bool false, .int .u64 0, .int .u32 0, .bool false, .slice z 0 q]) (by simp [results, Tryz.results22, go_sem, j0, j1, j2, j3, j4, j5, j6, j7, j8, j9, j10, j11]) rfl ⟨z, q, rfl, ?_, jb⟩
  exact HI.out.kept jk (fun b hb e => absurd rfl hb.1)
end Go.Proofs.YtllbngopfganjaaGreatDoor.Nd
end

section
namespace Go.Proofs.YtllbngopfganjaaGreatDoor.Nd
open Go.RowKit Go.Cor

theorem Tryz.sizePosZ : (Tryz.prog.info? 124).map (·.size) = some 5 := by kernel_rfl
theorem from_oneZ {l : List Pos} (hs : Asc l) (k : Nat) : Q.fromL l k 1 = [] ∧ fnd l k = none ∨ ∃ q, Q.fromL l k 1 = [q] ∧ (q.key ≠ k ∧ fnd l k = none ∨ q.key = k ∧ fnd l k = some q) := by
  unfold Q.fromL
  by_cases hp : psn l k < l.length
  · obtain ⟨q, hq⟩ : ∃ q, l[psn l k]? = some q := ⟨_, List.getElem?_eq_getElem hp⟩
    refine .inr ⟨q, ?_, ?_⟩
    · obtain ⟨h1, h2⟩ := List.getElem?_eq_some_iff.1 hq
      rw [List.drop_eq_getElem_cons h1, h2]
      rfl
    · by_cases hk : q.key = k
      · exact .inr ⟨hk, by unfold fnd; rw [hq]; simp [hk]⟩
      · exact .inl ⟨hk, by unfold fnd; rw [hq]; simp [hk]⟩
  · refine .inl ⟨by rw [List.drop_eq_nil_of_le (by omega)]; rfl, ?_⟩
    unfold fnd
    rw [List.getElem?_eq_none (by omega)]
    rfl
theorem fin4z {w0 w : World} {B : Nat} {a0 a1 a2 a3 : Value} {T : TypeId} (h : Blk w B #[a0, a1, a2, a3] T) (hb : Below w0.heap.size w0 w) (hB : w0.heap.size ≤ B) (u0 u1 u2 u3 : Value) :
    ((((w.setCell ⟨B, 0, none⟩ u0).setCell ⟨B, 1, none⟩ u1).setCell ⟨B, 2, none⟩ u2).setCell ⟨B, 3, none⟩ u3).cell? ⟨B, 0, none⟩ = some u0 ∧ ((((w.setCell ⟨B, 0, none⟩ u0).setCell ⟨B, 1, none⟩ u1).setCell ⟨B, 2, none⟩ u2).setCell ⟨B, 3, none⟩ u3).cell? ⟨B, 1, none⟩ = some u1 ∧ ((((w.setCell ⟨B, 0, none⟩ u0).setCell ⟨B, 1, none⟩ u1).setCell ⟨B, 2, none⟩ u2).setCell ⟨B, 3, none⟩ u3).cell? ⟨B, 2, none⟩ = some u2 ∧ ((((w.setCell ⟨B, 0, none⟩ u0).setCell ⟨B, 1, none⟩ u1).setCell ⟨B, 2, none⟩ u2).setCell ⟨B, 3, none⟩ u3).cell? ⟨B, 3, none⟩ = some u3 ∧ Below w0.heap.size w0 ((((w.setCell ⟨B, 0, none⟩ u0).setCell ⟨B, 1, none⟩ u1).setCell ⟨B, 2, none⟩ u2).setCell ⟨B, 3, none⟩ u3) ∧ Kept (fun j => j = B) w ((((w.setCell ⟨B, 0, none⟩ u0).setCell ⟨B, 1, none⟩ u1).setCell ⟨B, 2, none⟩ u2).setCell ⟨B, 3, none⟩ u3) := by
  have hz := (((h.set 0 u0).set 1 u1).set 2 u2).set 3 u3
  simp at hz
  exact ⟨hz.cell 0 rfl, hz.cell 1 rfl, hz.cell 2 rfl, hz.cell 3 rfl, (((hb.setCell (p := ⟨B, 0, none⟩) hB u0).setCell (p := ⟨B, 1, none⟩) hB u1).setCell (p := ⟨B, 2, none⟩) hB u2).setCell (p := ⟨B, 3, none⟩) hB u3, ((((Kept.refl (fun j => j = B) w).setCell (p := ⟨B, 0, none⟩) (.inl rfl) u0).setCell (p := ⟨B, 1, none⟩) (.inl rfl) u1).setCell (p := ⟨B, 2, none⟩) (.inl rfl) u2).setCell (p := ⟨B, 3, none⟩) (.inl rfl) u3⟩
/-- The same, as it reads behind a draw. -/
theorem fin4e {w : World} {B : Nat} {a0 a1 a2 a3 : Value} {T : TypeId} (h : Blk w B #[a0, a1, a2, a3] T) (u0 u1 u2 u3 : Value) :
    (w.setCell ⟨B, 0, none⟩ u0).cell? ⟨B, 0, none⟩ = some u0 ∧ ((w.setCell ⟨B, 0, none⟩ u0).setCell ⟨B, 1, none⟩ u1).cell? ⟨B, 1, none⟩ = some u1 ∧ (((w.setCell ⟨B, 0, none⟩ u0).setCell ⟨B, 1, none⟩ u1).setCell ⟨B, 2, none⟩ u2).cell? ⟨B, 2, none⟩ = some u2 ∧ ((((w.setCell ⟨B, 0, none⟩ u0).setCell ⟨B, 1, none⟩ u1).setCell ⟨B, 2, none⟩ u2).setCell ⟨B, 3, none⟩ u3).cell? ⟨B, 3, none⟩ = some u3 := by
  have h0 := h.set 0 u0
  have h1 := h0.set 1 u1
  have h2 := h1.set 2 u2
  have h3 := h2.set 3 u3
  simp at h0 h1 h2 h3
  exact ⟨h0.cell 0 rfl, h1.cell 1 rfl, h2.cell 2 rfl, h3.cell 3 rfl⟩
set_option maxRecDepth 100000 in
set_option maxHeartbeats 2000000 in
theorem stands_v (key g p k : Nat) (S : Nat → Prop) (d : Dsk) (s : Vst) (w : World) (h : Vready w g p S d k s) :
    Calls Tryz.prog 73 #[.pointer (some ⟨g, 0, none⟩), .int .u64 (key : Int)] w fun e w' => ∃ x n c, e = .returned (.tuple #[nval ((standN s key).getD nz) (.slice x n c), .bool (standN s key).isSome]) ∧ IsB w' (.slice x n c) ((standN s key).getD nz).data ∧ (∀ b, liesB (.slice x n c) ((standN s key).getD nz).data b → w.heap.size ≤ b) ∧ Below w.heap.size w w' := by
  have hal := below_new16 w (.cells #[.int .u64 0, .int .u32 0, .bool false, .slice none 0 0] 43)
  have HKY := Lib.hid (keys_v key 1 g p k S d s _ (h.below hal))
  have HX1 := Lib.hid (Blk.new w #[.int .u64 0, .int .u32 0, .bool false, .slice none 0 0] 43)
  have HAL := Lib.hid hal
  have HGT := Lib.hid (fun c wx (hb : Below w.heap.size w wx) => get_v key c g p k S d s wx (h.below hb))
  have hcs := from_oneZ s.idx_asc key
  obtain ⟨l, hl⟩ : ∃ l, Q.fromL s.idx key 1 = l := ⟨_, rfl⟩
  rw [hl] at hcs
  simp only [hl] at HKY
  cases ho : newest s.ns key with
  | none =>
    have hst : standN s key = none := by unfold standN; rw [ho]
    have hfn := Vst.fnd_none ho
    rw [hst]
    clear h hl hal ho hst HGT
    rcases hcs with ⟨rfl, hf⟩ | ⟨q, rfl, ⟨hq, hf⟩ | ⟨hq, hf⟩⟩
    · clear hf hfn
      go_enter Tryz.func73, Tryz.ntmps73
      go_wp2_with fail
      refine HKY.out.mono ?_
      rintro e w2 ⟨v', rfl, hown, hb2⟩
      have HP2 := Lib.hid (show Q.IsP w2 v' [] from Q.IsP.own (by exact hown) rfl)
      have HB2 := Lib.hid (HAL.out.trans (hb2.mono HAL.out.size))
      have HX2 := Lib.hid (HX1.out.below hb2 HX1.out.lt)
      have hlen := fun W => Q.len_P (P := Tryz.prog) HP2.out rfl 121 3 124 Tryz.underlying121 W
      clear hown HKY
      simp only [List.length_nil] at hlen
      have hlt2 : w.heap.size < w2.heap.size := HX2.out.lt
      have z0 := HX2.out.cell 0 rfl
      have z1 := HX2.out.cell 1 rfl
      have z2 := HX2.out.cell 2 rfl
      have z3 := HX2.out.cell 3 rfl
      have zf := fun j => HX2.out.free j
      have HF := fin4z HX2.out HB2.out (Nat.le_refl _) (.int .u64 0) (.int .u32 0) (.bool false) (.slice none 0 0)
      have HF := Lib.hid HF
      clear hb2
      go_wp2
      obtain ⟨y0, y1, y2, y3, yb, yk⟩ := HF.out
      exact bodyPost_ret (v := .tuple #[.agg #[.int .u64 0, .int .u32 0, .bool false, .slice none 0 0], .bool false]) (by simp [results, Tryz.results73, go_sem, y0, y1, y2, y3]) rfl ⟨none, 0, 0, rfl, IsB.nil _, fun b hb => absurd rfl hb.1, yb⟩
    · clear hf hfn
      go_enter Tryz.func73, Tryz.ntmps73
      go_wp2_with fail
      refine HKY.out.mono ?_
      rintro e w2 ⟨v', rfl, hown, hb2⟩
      have HP2 := Lib.hid (show Q.IsP w2 v' [q] from Q.IsP.own (by exact hown) rfl)
      have HB2 := Lib.hid (HAL.out.trans (hb2.mono HAL.out.size))
      have HX2 := Lib.hid (HX1.out.below hb2 HX1.out.lt)
      have hlen := fun W => Q.len_P (P := Tryz.prog) HP2.out rfl 121 3 124 Tryz.underlying121 W
      clear hown HKY
      simp only [List.length_singleton] at hlen
      obtain ⟨b, o, hidx, hp⟩ := Q.indexAt_P (P := Tryz.prog) HP2.out 121 124 Tryz.underlying121 Tryz.sizePosZ 0 (Nat.lt_succ_self 0)
      have hix : ∀ W, (Instr.indexAt 121 v' (.int .i64 0)).run Tryz.prog W = .ok (.pointer (some ⟨b, o, none⟩)) W := hidx
      obtain ⟨c0, c1, c2, c3, c4⟩ := hp
      have c0' : w2.cell? ⟨b, o, none⟩ = some (.int .u64 (q.key : Int)) := c0
      obtain ⟨QK, hQK⟩ : ∃ K, q.key = K := ⟨_, rfl⟩
      rw [hQK] at hq c0'
      have hkb : ((QK : Int) == (key : Int)) = false := beq_eq_false_iff_ne.2 (by omega)
      clear c0 c1 c2 c3 c4 hidx hQK
      have hlt2 : w.heap.size < w2.heap.size := HX2.out.lt
      have z0 := HX2.out.cell 0 rfl
      have z1 := HX2.out.cell 1 rfl
      have z2 := HX2.out.cell 2 rfl
      have z3 := HX2.out.cell 3 rfl
      have zf := fun j => HX2.out.free j
      have HF := fin4z HX2.out HB2.out (Nat.le_refl _) (.int .u64 0) (.int .u32 0) (.bool false) (.slice none 0 0)
      have HF := Lib.hid HF
      clear hb2
      go_wp2
      obtain ⟨y0, y1, y2, y3, yb, yk⟩ := HF.out
      exact bodyPost_ret (v := .tuple #[.agg #[.int .u64 0, .int .u32 0, .bool false, .slice none 0 0], .bool false]) (by simp [results, Tryz.results73, go_sem, y0, y1, y2, y3]) rfl ⟨none, 0, 0, rfl, IsB.nil _, fun b hb => absurd rfl hb.1, yb⟩
    · rw [hfn] at hf
      cases hf
  | some m =>
    obtain ⟨a, bb, _, hf0⟩ := Vst.fnd_some ho
    have hmk := (newest_mem ho).2
    have hlk : m.gone = false → s.look key m.cookie = 0 := fun hg => by
      unfold Vst.look
      rw [ho]
      simp [hg]
    obtain ⟨mk, ck, gn, md⟩ := m
    dsimp only at hmk hlk hf0
    subst hmk
    have hl1 : l = [posN ⟨mk, ck, gn, md⟩ (16 + tot a)] := by
      rcases hcs with ⟨_, hf⟩ | ⟨q, hq0, ⟨hq, hf⟩ | ⟨hq, hf⟩⟩
      · rw [hf0] at hf; cases hf
      · rw [hf0] at hf; cases hf
      · rw [hf0] at hf
        cases hf
        exact hq0
    subst hl1
    cases gn with
    | true =>
      have hst : standN s mk = some ⟨mk, ck, true, []⟩ := by unfold standN; rw [ho]; rfl
      rw [hst]
      clear h hl hal ho hst HGT hlk hf0 hcs
      go_enter Tryz.func73, Tryz.ntmps73
      go_wp2_with fail
      refine HKY.out.mono ?_
      rintro e w2 ⟨v', rfl, hown, hb2⟩
      have HP2 := Lib.hid (show Q.IsP w2 v' [posN ⟨mk, ck, true, md⟩ (16 + tot a)] from Q.IsP.own (by exact hown) rfl)
      have HB2 := Lib.hid (HAL.out.trans (hb2.mono HAL.out.size))
      have HX2 := Lib.hid (HX1.out.below hb2 HX1.out.lt)
      have hlen := fun W => Q.len_P (P := Tryz.prog) HP2.out rfl 121 3 124 Tryz.underlying121 W
      clear hown HKY
      simp only [List.length_singleton] at hlen
      obtain ⟨b, o, hidx, hp⟩ := Q.indexAt_P (P := Tryz.prog) HP2.out 121 124 Tryz.underlying121 Tryz.sizePosZ 0 (Nat.lt_succ_self 0)
      have hix : ∀ W, (Instr.indexAt 121 v' (.int .i64 0)).run Tryz.prog W = .ok (.pointer (some ⟨b, o, none⟩)) W := hidx
      obtain ⟨c0, c1, c2, c3, c4⟩ := hp
      have c0' : w2.cell? ⟨b, o, none⟩ = some (.int .u64 (mk : Int)) := c0
      have c3' : w2.cell? ⟨b, o + 3, none⟩ = some (.int .u32 (ck : Int)) := c3
      have c4' : w2.cell? ⟨b, o + 4, none⟩ = some (.bool true) := c4
      clear c0 c1 c2 c3 c4 hidx
      have hlt2 : w.heap.size < w2.heap.size := HX2.out.lt
      have z0 := HX2.out.cell 0 rfl
      have z1 := HX2.out.cell 1 rfl
      have z2 := HX2.out.cell 2 rfl
      have z3 := HX2.out.cell 3 rfl
      have zf := fun j => HX2.out.free j
      have HF := fin4z HX2.out HB2.out (Nat.le_refl _) (.int .u64 (mk : Int)) (.int .u32 (ck : Int)) (.bool true) (.slice none 0 0)
      have HF := Lib.hid HF
      clear hb2
      go_wp2
      obtain ⟨y0, y1, y2, y3, yb, yk⟩ := HF.out
      exact bodyPost_ret (v := .tuple #[.agg #[.int .u64 (mk : Int), .int .u32 (ck : Int), .bool true, .slice none 0 0], .bool true]) (by simp [results, Tryz.results73, go_sem, y0, y1, y2, y3]) rfl ⟨none, 0, 0, rfl, IsB.nil _, fun b hb => absurd rfl hb.1, yb⟩
    | false =>
      have hst : standN s mk = some ⟨mk, ck, false, md⟩ := by unfold standN; rw [ho]; rfl
      have hl0 := hlk rfl
      obtain ⟨L, hL⟩ : ∃ L, md.length = L := ⟨_, rfl⟩
      have hgt : ∀ wx, Below w.heap.size w wx → Calls Tryz.prog 71 #[.pointer (some ⟨g, 0, none⟩), .int .u64 (mk : Int), .int .u32 (ck : Int)] wx fun e w' => ∃ x cc, e = .returned (.tuple #[.agg #[.int .u64 (mk : Int), .int .u32 (ck : Int), .bool false, .slice x L cc], .nilIface]) ∧ IsB w' (.slice x L cc) md ∧ (∀ b, liesB (.slice x L cc) md b → wx.heap.size ≤ b) ∧ Below wx.heap.size wx w' := fun wx hb => by
        refine (HGT.out ck wx hb).mono ?_
        rintro e w' ⟨m, x, cc, rfl, hown, hb', hm⟩
        rw [if_pos hl0, ho] at hm
        cases hm
        rw [hl0]
        refine ⟨x, cc, by rw [← hL]; rfl, ?_, fun b hb => ?_, hb'⟩
        · rw [← hL]; exact IsB.own hown rfl
        · rw [← hL] at hb; exact (hown.lt b hb.2).1
      have HG := Lib.hid hgt
      rw [hst]
      have HLL := Lib.hid hL
      clear h hl hal ho hst HGT hlk hf0 hcs hl0 hgt hL
      go_enter Tryz.func73, Tryz.ntmps73
      go_wp2_with fail
      refine HKY.out.mono ?_
      rintro e w2 ⟨v', rfl, hown, hb2⟩
      have HP2 := Lib.hid (show Q.IsP w2 v' [posN ⟨mk, ck, false, md⟩ (16 + tot a)] from Q.IsP.own (by exact hown) rfl)
      have HB2 := Lib.hid (HAL.out.trans (hb2.mono HAL.out.size))
      have HX2 := Lib.hid (HX1.out.below hb2 HX1.out.lt)
      have hlen := fun W => Q.len_P (P := Tryz.prog) HP2.out rfl 121 3 124 Tryz.underlying121 W
      clear hown HKY
      simp only [List.length_singleton] at hlen
      obtain ⟨b, o, hidx, hp⟩ := Q.indexAt_P (P := Tryz.prog) HP2.out 121 124 Tryz.underlying121 Tryz.sizePosZ 0 (Nat.lt_succ_self 0)
      have hix : ∀ W, (Instr.indexAt 121 v' (.int .i64 0)).run Tryz.prog W = .ok (.pointer (some ⟨b, o, none⟩)) W := hidx
      obtain ⟨c0, c1, c2, c3, c4⟩ := hp
      have c0' : w2.cell? ⟨b, o, none⟩ = some (.int .u64 (mk : Int)) := c0
      have c3' : w2.cell? ⟨b, o + 3, none⟩ = some (.int .u32 (ck : Int)) := c3
      have c4' : w2.cell? ⟨b, o + 4, none⟩ = some (.bool false) := c4
      clear c0 c1 c2 c3 c4 hidx hb2
      go_wp2_with fail
      refine (HG.out _ HB2.out).mono ?_
      rintro e w3 ⟨x, cc, rfl, hi3, hfr3, hb3⟩
      have hX3 := HX2.out.below hb3 HX2.out.lt
      have hB3 := HB2.out.trans (hb3.mono HB2.out.size)
      have hX4 := hX3.alloc (.cells #[.int .u64 (mk : Int), .int .u32 (ck : Int), .bool false, .slice x L cc] 43)
      have hN4 := Blk.new w3 #[.int .u64 (mk : Int), .int .u32 (ck : Int), .bool false, .slice x L cc] 43
      have hB4 := hB3.alloc hB3.size (.cells #[.int .u64 (mk : Int), .int .u32 (ck : Int), .bool false, .slice x L cc] 43)
      have hI4 := hi3.mono (below_new16 w3 (.cells #[.int .u64 (mk : Int), .int .u32 (ck : Int), .bool false, .slice x L cc] 43)) (Nat.le_refl _)
      have hlow : ∀ b, liesB (.slice x L cc) md b → w.heap.size + 1 ≤ b := fun b hb => by
        have := hfr3 b hb
        have := HX2.out.lt
        omega
      obtain ⟨w4, hw4⟩ : ∃ z, w3.alloc (.cells #[.int .u64 (mk : Int), .int .u32 (ck : Int), .bool false, .slice x L cc] 43) = z := ⟨_, rfl⟩
      rw [hw4] at hX4 hN4 hB4 hI4
      have HLOW := Lib.hid hlow
      have HI4 := Lib.hid hI4
      have HF := fin4z hX4 hB4 (Nat.le_refl _) (.int .u64 (mk : Int)) (.int .u32 (ck : Int)) (.bool false) (.slice x L cc)
      have HF := Lib.hid HF
      have HE := Lib.hid (fin4e hX4 (.int .u64 (mk : Int)) (.int .u32 (ck : Int)) (.bool false) (.slice x L cc))
      have n0 := hN4.drew.cell 0 rfl
      have n1 := hN4.drew.cell 1 rfl
      have n2 := hN4.drew.cell 2 rfl
      have n3 := hN4.drew.cell 3 rfl
      have z0 := hX4.drew.cell 0 rfl
      have v0 := hX4.cell 0 rfl
      have z1 := hX4.drew.cell 1 rfl
      have v1 := hX4.cell 1 rfl
      have z2 := hX4.drew.cell 2 rfl
      have v2 := hX4.cell 2 rfl
      have z3 := hX4.drew.cell 3 rfl
      have v3 := hX4.cell 3 rfl
      have zf := fun j => hX4.drew.free j
      have vf := fun j => hX4.free j
      have hlt3 : w.heap.size < w3.heap.size := hX3.lt
      clear hi3 hfr3 hX3 hB3 hX4 hN4 hB4 hI4 hlow hb3 c0' c3' c4'
      go_upto_region 7 with fail
      try rw [hw4]
      clear hw4
      go_region
      go_wp2
      obtain ⟨y0, y1, y2, y3, yb, yk⟩ := HF.out
      obtain ⟨e0, e1, e2, e3⟩ := HE.out
      exact bodyPost_ret (v := .tuple #[.agg #[.int .u64 (mk : Int), .int .u32 (ck : Int), .bool false, .slice x L cc], .bool true]) (by simp [results, Tryz.results73, go_sem, y0, y1, y2, y3, e0, e1, e2, e3]) rfl ⟨x, L, cc, rfl, HI4.out.kept yk.drew (fun b hb e => by have := HLOW.out b hb; omega), fun b hb => by have := HLOW.out b hb; omega, yb.drew⟩

end Go.Proofs.YtllbngopfganjaaGreatDoor.Nd
end
