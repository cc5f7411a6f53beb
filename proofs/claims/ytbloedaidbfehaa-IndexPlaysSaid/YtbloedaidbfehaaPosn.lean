/- Positions in memory, and slices of them; the statements' own Of, To and Same, by contracts. -/
import Derived.Test.YtbloedaidbfehaaIxp
import Derived.Test.YtbloedaidbfehaaBlk
import Derived.Test.YtbloedaidbfehaaErrs
import Derived.WalkSpells
import Derived.WalkLawsBesides
import Derived.Deep.CutRange
import Derived.Deep.RegionHeld3
import Derived.BigQuiet
import Derived.Laws.StructEq
import Derived.Lib.Hide
import Derived.LaidEql
import Derived.IntWalk
import Derived.Outline
import Derived.ArgAppend
namespace Go.Proofs.Ytbloedaidbfehaa
open Go.RowKit Go.Cor

theorem Try.infoPos : (Try.prog.info? 32).map (fun i => (i.zero, i.size, i.bytes)) = some (some (.agg #[.int .u64 0, .int .i64 0, .int .i64 0, .int .u32 0, .bool false]), 5, 32) := by kernel_rfl
theorem Try.infoPosR : (Try.prog.info? 33).map (fun i => (i.zero, i.size, i.bytes)) = some (some (.agg #[.int .u64 0, .int .i64 0, .int .i64 0, .int .u32 0, .bool false]), 5, 32) := by kernel_rfl
theorem Try.sizePos : (Try.prog.info? 32).map (·.size) = some 5 := by kernel_rfl
theorem Try.sizePosR : (Try.prog.info? 33).map (·.size) = some 5 := by kernel_rfl

/-- A position as a value, and as cells. -/
abbrev pval (p : Pos) : Value := .agg #[.int .u64 (p.key : Int), .int .i64 p.off, .int .i64 p.len, .int .u32 (p.cookie : Int), .bool p.gone]
def pcells (p : Pos) : List Value := [.int .u64 (p.key : Int), .int .i64 p.off, .int .i64 p.len, .int .u32 (p.cookie : Int), .bool p.gone]
theorem pcells_len (p : Pos) : (pcells p).length = 5 := rfl
abbrev pcs (l : List Pos) : List Value := row pcells l
theorem pcs_append (a b : List Pos) : pcs (a ++ b) = pcs a ++ pcs b := row_append _ a b
theorem length_pcs (ps : List Pos) : (pcs ps).length = ps.length * 5 := length_row pcells_len ps
theorem pcells_one (p : Pos) : ∀ v ∈ pcells p, v.oneCell' = true := by
  intro v hv
  simp only [pcells, List.mem_cons, List.not_mem_nil, or_false] at hv
  rcases hv with rfl | rfl | rfl | rfl | rfl <;> rfl
theorem pcs_one (ps : List Pos) : ∀ v ∈ pcs ps, v.oneCell' = true := row_mem fun p _ => pcells_one p
theorem pcs_get {ps : List Pos} {i : Nat} {p : Pos} (h : ps[i]? = some p) (j : Nat) (hj : j < 5) : (pcs ps)[i * 5 + j]? = (pcells p)[j]? := row_get pcells_len h j hj

/-- A position lies at an address. -/
def PCells (w : World) (b o : Nat) (p : Pos) : Prop :=
  w.cell? ⟨b, o, none⟩ = some (.int .u64 (p.key : Int)) ∧ w.cell? ⟨b, o + 1, none⟩ = some (.int .i64 p.off) ∧ w.cell? ⟨b, o + 2, none⟩ = some (.int .i64 p.len) ∧ w.cell? ⟨b, o + 3, none⟩ = some (.int .u32 (p.cookie : Int)) ∧ w.cell? ⟨b, o + 4, none⟩ = some (.bool p.gone)
theorem PCells.lt {w : World} {b o : Nat} {p : Pos} (h : PCells w b o p) : b < w.heap.size := cell_lt h.1
/-- v is a slice of positions. -/
def IsP (w : World) (v : Value) (ps : List Pos) : Prop := IsX w 5 v ps.length (pcs ps)
theorem IsP.nil (w : World) : IsP w (.slice none 0 0) [] := IsX.nil w 5
theorem IsP.mono {w w' : World} {v : Value} {ps : List Pos} {B : Nat} (h : IsP w v ps) (hb : Below B w w') (hB : w.heap.size ≤ B) : IsP w' v ps := IsX.mono h hb hB
theorem IsP.at_len {w : World} {v : Value} {ps : List Pos} {n : Nat} (h : IsP w v ps) (hn : ps.length = n) : ∃ x cap, v = .slice x n cap ∧ n ≤ cap ∧ cap ≤ maxLen := by
  subst hn
  exact IsX.slice h
theorem IsP.own {w : World} {base : Nat} {e : TypeId} {v : Value} {ps : List Pos} {n : Nat} (h : w.ownsRow base e 5 v n (pcs ps)) (hn : n = ps.length) : IsP w v ps := by
  subst hn
  exact IsX.own h
theorem len_P {P : Program} {w : World} {v : Value} {ps : List Pos} (hv : IsP w v ps) {n : Nat} (hn : ps.length = n) (T ty U : TypeId) (ht : P.underlying T = some (.slice U)) (W : World) : (Builtin.len_ #[T] ty #[v]).run P W = .ok (.int .i64 (n : Int)) W := by
  subst hn
  exact len_X hv T ty U ht W
theorem pcells_at {w : World} {b o : Nat} {ps : List Pos} {i : Nat} (hi : i < ps.length) (h : ∀ j, j < 5 → w.cell? ⟨b, o + j, none⟩ = (pcs ps)[i * 5 + j]?) : PCells w b o (pat ps i) := by
  have c : ∀ j, j < 5 → w.cell? ⟨b, o + j, none⟩ = (pcells (pat ps i))[j]? := fun j hj => by rw [h j hj, pcs_get (get_pat hi) j hj]
  exact ⟨c 0 (by decide), c 1 (by decide), c 2 (by decide), c 3 (by decide), c 4 (by decide)⟩
theorem indexAt_P {P : Program} {w : World} {v : Value} {ps : List Pos} (hv : IsP w v ps) (T U : TypeId) (ht : P.underlying T = some (.slice U)) (hs : (P.info? U).map (·.size) = some 5) (i : Nat) (hi : i < ps.length) :
    ∃ b o, (∀ W, (Instr.indexAt T v (.int .i64 (i : Int))).run P W = .ok (.pointer (some ⟨b, o, none⟩)) W) ∧ PCells w b o (pat ps i) := by
  obtain ⟨b, o, h1, _, h3⟩ := indexAt_X hv T U ht hs i hi
  exact ⟨b, o, h1, pcells_at hi h3⟩

theorem cell_five_new (w : World) (p : Pos) (t : TypeId) : ∀ j u, (pcells p)[j]? = some u → (w.alloc (.cells #[.int .u64 (p.key : Int), .int .i64 p.off, .int .i64 p.len, .int .u32 (p.cookie : Int), .bool p.gone] t)).cell? ((⟨w.heap.size, 0, none⟩ : Addr).add j) = some u := by
  intro j u hj
  have hlt : j < 5 := (List.getElem?_eq_some_iff.1 hj).1
  rw [add_lit]
  rcases (show j = 0 ∨ j = 1 ∨ j = 2 ∨ j = 3 ∨ j = 4 from by omega) with rfl | rfl | rfl | rfl | rfl <;> (simp only [pcells, List.getElem?_cons_zero, List.getElem?_cons_succ, Option.some.injEq] at hj; subst hj; go_simp)

theorem pcs_take {ps : List Pos} {i : Nat} (h : i < ps.length) : pcs (ps.take (i + 1)) = pcs (ps.take i) ++ pcells (pat ps i) := by
  rw [take_snoc h, pcs_append]
  exact congrArg _ (row_one pcells _)


set_option maxHeartbeats 1000000 in
theorem of5_any (v : Value) (ps : List Pos) (w : World) (hv : IsP w v ps) (hl : ps.length ≤ 4398046511104) :
    Calls Try.prog 19 #[v] w fun e w' =>
      ∃ v', e = .returned v' ∧ w'.ownsRow w.heap.size 32 5 v' ps.length (pcs ps) ∧ Below w.heap.size w w' := by
  obtain ⟨i0, hi, hz0, hz1, hz2⟩ := info_parts Try.infoPos
  obtain ⟨N, hN⟩ : ∃ N, ps.length = N := ⟨_, rfl⟩
  have HV := Lib.hid hv
  obtain ⟨x, cap, rfl, hlc, hcm⟩ := hv.at_len hN
  rw [hN] at hl ⊢
  have HN := Lib.hid hN
  clear hv hN
  go_enter Try.func19, Try.ntmps19
  go_wp2_with fail
  go_loopw [3, 4] (fun o k wr => ∃ i : Nat, i ≤ N ∧ k = .int .i64 i ∧ Hid (wr.ownsRow w.heap.size 32 5 o i (pcs (ps.take i))) ∧ Hid (Below w.heap.size w wr)) (fun _ k _ => N - (intOf k).toNat)
  case atStart => exact ⟨0, by omega, rfl, Lib.hid (World.ownsRow_nil _ _ _ _), Lib.hid (Below.refl _ _)⟩
  case round =>
    obtain ⟨i, hiN, rfl, HO, HB⟩ := hrel
    by_cases hlt : i < N
    · have HVr := Lib.hid (HV.out.mono HB.out (Nat.le_refl _))
      obtain ⟨p, hp⟩ : ∃ p, pat ps i = p := ⟨_, rfl⟩
      obtain ⟨bp, op, hidx, k0, k1, k2, k3, k4⟩ := indexAt_P HVr.out 22 33 Try.underlying22 Try.sizePosR i (by rw [HN.out]; exact hlt)
      rw [hp] at k0 k1 k2 k3 k4
      have HPT := Lib.hid (show pcs (ps.take (i + 1)) = pcs (ps.take i) ++ pcells p from by rw [pcs_take (by rw [HN.out]; exact hlt), hp])
      clear hp
      obtain ⟨X, hX⟩ : ∃ X, X = pcs (ps.take i) := ⟨_, rfl⟩
      rw [← hX] at HO HPT
      clear hX
      go_wp2_with (at_builtin; refine wpList_append_own _ rfl _ _ 39 rfl w.heap.size 32 i0 _ 5 32 Try.underlying39 hi hz0 hz1 hz2 rfl (by decide) _ _ _ rfl (HO.out.alloc _) ⟨wr.heap.size, 0, none⟩ 1 1 (pcells p) rfl rfl ?c1 ?c2 ?c3 ?c4 ?c5 ?_)
      case c1 => exact cell_five_new _ p _
      case c2 => exact pcells_one p
      case c3 => unfold maxLen; omega
      case c4 => omega
      case c5 => have := HB.out.size; simp; omega
      intro v' w1 hown' hgrow _
      have HB1 := Lib.hid ((HB.out.alloc HB.out.size _).grown hgrow (by have := HB.out.size; simp; omega) (fun j hj => (HO.out.lt j hj).1))
      have HO1 := Lib.hid (show w1.ownsRow w.heap.size 32 5 v' (i + 1) (pcs (ps.take (i + 1))) from by rw [HPT.out]; exact hown')
      clear hown' hgrow k0 k1 k2 k3 k4 hidx HO HB
      go_wp2
      go_roundw
      case rel => exact ⟨i + 1, by omega, by go_num, HO1, HB1⟩
      case measure => simp [intOf]; omega
    · obtain rfl : N = i := by omega
      have HO2 := Lib.hid (show wr.ownsRow w.heap.size 32 5 u3 N (pcs ps) from by
        have h := HO.out
        rw [List.take_of_length_le (by rw [HN.out]; exact Nat.le_refl _)] at h
        exact h)
      clear HO
      go_wp2
      go_ret
      exact ⟨_, rfl, HO2.out, HB.out⟩

set_option maxHeartbeats 1000000 in
theorem to5_any (v : Value) (ps : List Pos) (w : World) (hv : IsP w v ps) (hl : ps.length ≤ 4398046511104) :
    Calls Try.prog 13 #[v] w fun e w' =>
      ∃ v', e = .returned v' ∧ w'.ownsRow w.heap.size 33 5 v' ps.length (pcs ps) ∧ Below w.heap.size w w' := by
  obtain ⟨i0, hi, hz0, hz1, hz2⟩ := info_parts Try.infoPosR
  obtain ⟨N, hN⟩ : ∃ N, ps.length = N := ⟨_, rfl⟩
  have HV := Lib.hid hv
  obtain ⟨x, cap, rfl, hlc, hcm⟩ := hv.at_len hN
  rw [hN] at hl ⊢
  have HN := Lib.hid hN
  clear hv hN
  go_enter Try.func13, Try.ntmps13
  go_wp2_with fail
  go_loopw [3, 4] (fun o k wr => ∃ i : Nat, i ≤ N ∧ k = .int .i64 i ∧ Hid (wr.ownsRow w.heap.size 33 5 o i (pcs (ps.take i))) ∧ Hid (Below w.heap.size w wr)) (fun _ k _ => N - (intOf k).toNat)
  case atStart => exact ⟨0, by omega, rfl, Lib.hid (World.ownsRow_nil _ _ _ _), Lib.hid (Below.refl _ _)⟩
  case round =>
    obtain ⟨i, hiN, rfl, HO, HB⟩ := hrel
    by_cases hlt : i < N
    · have HVr := Lib.hid (HV.out.mono HB.out (Nat.le_refl _))
      obtain ⟨p, hp⟩ : ∃ p, pat ps i = p := ⟨_, rfl⟩
      obtain ⟨bp, op, hidx, k0, k1, k2, k3, k4⟩ := indexAt_P HVr.out 39 32 Try.underlying39 Try.sizePos i (by rw [HN.out]; exact hlt)
      rw [hp] at k0 k1 k2 k3 k4
      have HPT := Lib.hid (show pcs (ps.take (i + 1)) = pcs (ps.take i) ++ pcells p from by rw [pcs_take (by rw [HN.out]; exact hlt), hp])
      clear hp
      obtain ⟨X, hX⟩ : ∃ X, X = pcs (ps.take i) := ⟨_, rfl⟩
      rw [← hX] at HO HPT
      clear hX
      go_wp2_with (at_builtin; refine wpList_append_own _ rfl _ _ 22 rfl w.heap.size 33 i0 _ 5 32 Try.underlying22 hi hz0 hz1 hz2 rfl (by decide) _ _ _ rfl (HO.out.alloc _) ⟨wr.heap.size, 0, none⟩ 1 1 (pcells p) rfl rfl ?c1 ?c2 ?c3 ?c4 ?c5 ?_)
      case c1 => exact cell_five_new _ p _
      case c2 => exact pcells_one p
      case c3 => unfold maxLen; omega
      case c4 => omega
      case c5 => have := HB.out.size; simp; omega
      intro v' w1 hown' hgrow _
      have HB1 := Lib.hid ((HB.out.alloc HB.out.size _).grown hgrow (by have := HB.out.size; simp; omega) (fun j hj => (HO.out.lt j hj).1))
      have HO1 := Lib.hid (show w1.ownsRow w.heap.size 33 5 v' (i + 1) (pcs (ps.take (i + 1))) from by rw [HPT.out]; exact hown')
      clear hown' hgrow k0 k1 k2 k3 k4 hidx HO HB
      go_wp2
      go_roundw
      case rel => exact ⟨i + 1, by omega, by go_num, HO1, HB1⟩
      case measure => simp [intOf]; omega
    · obtain rfl : N = i := by omega
      have HO2 := Lib.hid (show wr.ownsRow w.heap.size 33 5 u3 N (pcs ps) from by
        have h := HO.out
        rw [List.take_of_length_le (by rw [HN.out]; exact Nat.le_refl _)] at h
        exact h)
      clear HO
      go_wp2
      go_ret
      exact ⟨_, rfl, HO2.out, HB.out⟩


/-- Two positions as values: are they one? -/
theorem Try.eqlPos (p q : Pos) (w : World) : (binOp .neq 33 (pval p) (pval q)).run Try.prog w = .ok (.bool (decide (p ≠ q))) w := by
  have hS : Try.prog.underlying 33 = some (.struct (Try.prog.fieldsOf 33)) := by kernel_rfl
  have hp : Try.prog.stoodInHeld 33 = false := by kernel_rfl
  have h : (Op.equalIn 10000 33 (pval p) (pval q)).run Try.prog w = .ok (decide (p.key = q.key) && (decide (p.off = q.off) && (decide (p.len = q.len) && (decide (p.cookie = q.cookie) && decide (p.gone = q.gone))))) w := by
    rw [show (10000 : Nat) = 9999 + 1 from rfl, run_equalIn_agg w 9999 33 _ _ hS hp]
    simp only [Program.fieldsOf, Try.underlying33]
    go_simp
    by_cases h1 : p.key = q.key <;> by_cases h2 : p.off = q.off <;> by_cases h3 : p.len = q.len <;> by_cases h4 : p.cookie = q.cookie <;> by_cases h5 : p.gone = q.gone <;> simp [h1, h2, h3, h4, h5, Int.natCast_inj]
  rw [run_neq_struct, h]
  refine congrArg (fun b => Result.ok (Value.bool b) w) (a₁ := !(decide (p.key = q.key) && (decide (p.off = q.off) && (decide (p.len = q.len) && (decide (p.cookie = q.cookie) && decide (p.gone = q.gone)))))) ?_
  rw [Bool.eq_iff_iff]
  simp only [Bool.not_eq_true', Bool.and_eq_false_iff, decide_eq_false_iff_not, decide_eq_true_eq]
  constructor
  · intro h e
    subst e
    simp at h
  · intro hne
    by_cases h1 : p.key = q.key
    · by_cases h2 : p.off = q.off
      · by_cases h3 : p.len = q.len
        · by_cases h4 : p.cookie = q.cookie
          · by_cases h5 : p.gone = q.gone
            · exact absurd (Pos.ext' h1 h2 h3 h4 h5) hne
            · exact .inr (.inr (.inr (.inr h5)))
          · exact .inr (.inr (.inr (.inl h4)))
        · exact .inr (.inr (.inl h3))
      · exact .inr (.inl h2)
    · exact .inl h1
theorem Try.guardPos : Try.prog.eqGuardType Try.prog.depth 33 = false := by kernel_rfl

/-- Where two lists first differ. -/
theorem firstP {l m : List Pos} (h : l.length = m.length) (hne : l ≠ m) : ∃ k, k < l.length ∧ (∀ i, i < k → pat l i = pat m i) ∧ pat l k ≠ pat m k := by
  induction l generalizing m with
  | nil => exact absurd (List.eq_nil_of_length_eq_zero (by simpa using h.symm)).symm hne
  | cons x l ih =>
    cases m with
    | nil => simp at h
    | cons y m =>
      by_cases hxy : x = y
      · subst hxy
        obtain ⟨k, h1, h2, h3⟩ := ih (by simpa using h) (fun e => hne (by rw [e]))
        refine ⟨k + 1, by simpa using h1, fun i hi => ?_, by simpa using h3⟩
        cases i with
        | zero => rfl
        | succ i => simpa using h2 i (by omega)
      · exact ⟨0, by simp, fun i hi => by omega, by simpa using hxy⟩

set_option maxHeartbeats 1000000 in
theorem same5_yes (v1 v2 : Value) (ps : List Pos) (w : World) (hv1 : IsP w v1 ps) (hv2 : IsP w v2 ps) (hl : ps.length ≤ 4398046511104) :
    Calls Try.prog 12 #[v1, v2] w fun e w' => e = .returned (.bool true) ∧ ∃ n, w' = w.drewN n := by
  obtain ⟨N, hN⟩ : ∃ N, ps.length = N := ⟨_, rfl⟩
  have H1 := Lib.hid hv1
  have H2 := Lib.hid hv2
  obtain ⟨x1, cap1, rfl, hlc1, hcm1⟩ := hv1.at_len hN
  obtain ⟨x2, cap2, rfl, hlc2, hcm2⟩ := hv2.at_len hN
  rw [hN] at hl
  have HN := Lib.hid hN
  have hg := Try.guardPos
  clear hv1 hv2 hN
  go_enter Try.func12, Try.ntmps12
  go_wp2
  go_loopw [5] (fun c wr => ∃ k : Nat, k ≤ N ∧ c = .int .i64 k ∧ ∃ n, wr = w.drewN n) (fun c _ => N - (intOf c).toNat)
  case atStart => exact ⟨0, by omega, rfl, 0, rfl⟩
  case round =>
    obtain ⟨k, hk, rfl, n, rfl⟩ := hrel
    by_cases hlt : k < N
    · obtain ⟨b1, o1, i1, p0, p1, p2, p3, p4⟩ := indexAt_P H1.out 22 33 Try.underlying22 Try.sizePosR k (by rw [HN.out]; exact hlt)
      obtain ⟨b2, o2, i2, q0, q1, q2, q3, q4⟩ := indexAt_P H2.out 22 33 Try.underlying22 Try.sizePosR k (by rw [HN.out]; exact hlt)
      obtain ⟨p, hp⟩ : ∃ p, pat ps k = p := ⟨_, rfl⟩
      rw [hp] at p0 p1 p2 p3 p4 q0 q1 q2 q3 q4
      have he : ∀ W, (binOp .neq 33 (pval p) (pval p)).run Try.prog W = .ok (.bool false) W := fun W => by rw [Try.eqlPos]; simp
      clear hp
      go_wp2
      go_quiet (fail)
      go_wp2
      go_roundw
      case rel => exact ⟨k + 1, by omega, by go_num, _, rfl⟩
      case measure => simp [intOf]; omega
    · go_wp2
      go_ret
      exact ⟨rfl, n, rfl⟩

theorem same5_len (v1 v2 : Value) (ps qs : List Pos) (w : World) (hv1 : IsP w v1 ps) (hv2 : IsP w v2 qs) (hne : ps.length ≠ qs.length) :
    Calls Try.prog 12 #[v1, v2] w fun e w' => e = .returned (.bool false) ∧ w' = w := by
  obtain ⟨x1, cap1, rfl, hlc1, hcm1⟩ := hv1.at_len rfl
  obtain ⟨x2, cap2, rfl, hlc2, hcm2⟩ := hv2.at_len rfl
  have hb : ((ps.length : Int) != (qs.length : Int)) = true := by rw [bne_iff_ne]; omega
  clear hv1 hv2
  go_enter Try.func12, Try.ntmps12
  go_wp2
  go_ret
  exact ⟨rfl, rfl⟩

set_option maxHeartbeats 1000000 in
theorem same5_no (v1 v2 : Value) (ps qs : List Pos) (w : World) (hv1 : IsP w v1 ps) (hv2 : IsP w v2 qs) (hl : ps.length ≤ 4398046511104) (hlm : ps.length = qs.length) (hne : ps ≠ qs) :
    Calls Try.prog 12 #[v1, v2] w fun e w' => e = .returned (.bool false) ∧ ∃ n, w' = w.drewN n := by
  obtain ⟨j, hj, hsm, hdf⟩ := firstP hlm hne
  obtain ⟨N, hN⟩ : ∃ N, ps.length = N := ⟨_, rfl⟩
  have H1 := Lib.hid hv1
  have H2 := Lib.hid hv2
  obtain ⟨x1, cap1, rfl, hlc1, hcm1⟩ := hv1.at_len hN
  obtain ⟨x2, cap2, rfl, hlc2, hcm2⟩ := hv2.at_len (hlm.symm.trans hN)
  rw [hN] at hl hj
  have HN := Lib.hid hN
  have HM := Lib.hid (hlm.symm.trans hN)
  have HS := Lib.hid hsm
  have HD := Lib.hid hdf
  have hg := Try.guardPos
  clear hv1 hv2 hN hsm hdf hne hlm
  go_enter Try.func12, Try.ntmps12
  go_wp2
  go_loopw [5] (fun c wr => ∃ k : Nat, k ≤ j ∧ c = .int .i64 k ∧ ∃ n, wr = w.drewN n) (fun c _ => N - (intOf c).toNat)
  case atStart => exact ⟨0, by omega, rfl, 0, rfl⟩
  case round =>
    obtain ⟨k, hk, rfl, n, rfl⟩ := hrel
    have hkl : k < N := by omega
    obtain ⟨b1, o1, i1, p0, p1, p2, p3, p4⟩ := indexAt_P H1.out 22 33 Try.underlying22 Try.sizePosR k (by rw [HN.out]; exact hkl)
    obtain ⟨b2, o2, i2, q0, q1, q2, q3, q4⟩ := indexAt_P H2.out 22 33 Try.underlying22 Try.sizePosR k (by rw [HM.out]; exact hkl)
    by_cases hlt : k < j
    · have e := HS.out k hlt
      rw [← e] at q0 q1 q2 q3 q4
      obtain ⟨p, hp⟩ : ∃ p, pat ps k = p := ⟨_, rfl⟩
      rw [hp] at p0 p1 p2 p3 p4 q0 q1 q2 q3 q4
      have he : ∀ W, (binOp .neq 33 (pval p) (pval p)).run Try.prog W = .ok (.bool false) W := fun W => by rw [Try.eqlPos]; simp
      clear hp e
      go_wp2
      go_quiet (fail)
      go_wp2
      go_roundw
      case rel => exact ⟨k + 1, by omega, by go_num, _, rfl⟩
      case measure => simp [intOf]; omega
    · obtain rfl : k = j := by omega
      have e := HD.out
      obtain ⟨p, hp⟩ : ∃ p, pat ps k = p := ⟨_, rfl⟩
      obtain ⟨q, hq⟩ : ∃ q, pat qs k = q := ⟨_, rfl⟩
      rw [hp] at p0 p1 p2 p3 p4 e
      rw [hq] at q0 q1 q2 q3 q4 e
      have he : ∀ W, (binOp .neq 33 (pval p) (pval q)).run Try.prog W = .ok (.bool true) W := fun W => by rw [Try.eqlPos]; simp [e]
      clear hp hq e
      go_wp2
      go_quiet (fail)
      go_wp2
      go_ret
      exact ⟨rfl, _, World.drewN_drewN _ _ _⟩

theorem same5_any (v1 v2 : Value) (ps qs : List Pos) (w : World) (hv1 : IsP w v1 ps) (hv2 : IsP w v2 qs) (hl : ps.length ≤ 4398046511104) :
    Calls Try.prog 12 #[v1, v2] w fun e w' => e = .returned (.bool (decide (ps = qs))) ∧ ∃ n, w' = w.drewN n := by
  by_cases h : ps = qs
  · subst h
    rw [decide_eq_true rfl]
    exact same5_yes v1 v2 ps w hv1 hv2 hl
  · rw [decide_eq_false h]
    by_cases hlm : ps.length = qs.length
    · exact same5_no v1 v2 ps qs w hv1 hv2 hl hlm h
    · exact (same5_len v1 v2 ps qs w hv1 hv2 hlm).mono fun e w' he => ⟨he.1, 0, by rw [he.2]; rfl⟩

end Go.Proofs.Ytbloedaidbfehaa
