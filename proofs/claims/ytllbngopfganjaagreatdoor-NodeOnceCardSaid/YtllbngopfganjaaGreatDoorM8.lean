/- Posn, Srch, Ins, Idx, Idxp. -/
import Derived.Test.YtllbngopfganjaaGreatDoorM7
import Derived.Test.YtllbngopfganjaaGreatDoorM1
import Derived.Test.YtllbngopfganjaaGreatDoorM3
import Derived.WalkSpells
import Derived.WalkLawsBesides
import Derived.Deep.CutRange
import Derived.Deep.RegionHeld3
import Derived.BigQuiet
import Derived.Laws.StructEq
import Derived.Lib.Hide
import Derived.LaidEql
import Derived.IntWalk
import Derived.Outline
import Derived.ArgAppend
import Derived.Lib.SliceRun
import Derived.Lib.Overlaps
import Derived.Deep.RegionLaw
import Derived.StillTailTactics
set_option linter.unusedVariables false
set_option linter.unusedSimpArgs false

section
namespace Go.Proofs.YtllbngopfganjaaGreatDoor.Q
open Go.RowKit Go.Cor

theorem Tryz.infoPos : (Tryz.prog.info? 124).map (fun i => (i.zero, i.size, i.bytes)) = some (some (.agg #[.int .u64 0, .int .i64 0, .int .i64 0, .int .u32 0, .bool false]), 5, 32) := by kernel_rfl
theorem Tryz.sizePos : (Tryz.prog.info? 124).map (·.size) = some 5 := by kernel_rfl
/-- A position as a value, and as cells. -/
abbrev pval (p : Pos) : Value := .agg #[.int .u64 (p.key : Int), .int .i64 p.off, .int .i64 p.len, .int .u32 (p.cookie : Int), .bool p.gone]
def pcells (p : Pos) : List Value := [.int .u64 (p.key : Int), .int .i64 p.off, .int .i64 p.len, .int .u32 (p.cookie : Int), .bool p.gone]
theorem pcells_len (p : Pos) : (pcells p).length = 5 := rfl
abbrev pcs (l : List Pos) : List Value := row pcells l
theorem pcells_one (p : Pos) : ∀ v ∈ pcells p, v.oneCell' = true := by
  intro v hv
  simp only [pcells, List.mem_cons, List.not_mem_nil, or_false] at hv
  rcases hv with rfl | rfl | rfl | rfl | rfl <;> rfl
theorem pcs_one (ps : List Pos) : ∀ v ∈ pcs ps, v.oneCell' = true := row_mem fun p _ => pcells_one p
theorem pcs_get {ps : List Pos} {i : Nat} {p : Pos} (h : ps[i]? = some p) (j : Nat) (hj : j < 5) : (pcs ps)[i * 5 + j]? = (pcells p)[j]? := row_get pcells_len h j hj

/-- A position lies at an address. -/
def PCells (w : World) (b o : Nat) (p : Pos) : Prop :=
  w.cell? ⟨b, o, none⟩ = some (.int .u64 (p.key : Int)) ∧ w.cell? ⟨b, o + 1, none⟩ = some (.int .i64 p.off) ∧ w.cell? ⟨b, o + 2, none⟩ = some (.int .i64 p.len) ∧ w.cell? ⟨b, o + 3, none⟩ = some (.int .u32 (p.cookie : Int)) ∧ w.cell? ⟨b, o + 4, none⟩ = some (.bool p.gone)
theorem PCells.lt {w : World} {b o : Nat} {p : Pos} (h : PCells w b o p) : b < w.heap.size := cell_lt h.1
/-- v is a slice of positions. -/
def IsP (w : World) (v : Value) (ps : List Pos) : Prop := IsX w 5 v ps.length (pcs ps)
theorem IsP.nil (w : World) : IsP w (.slice none 0 0) [] := IsX.nil w 5
theorem IsP.mono {w w' : World} {v : Value} {ps : List Pos} {B : Nat} (h : IsP w v ps) (hb : Below B w w') (hB : w.heap.size ≤ B) : IsP w' v ps := IsX.mono h hb hB
theorem IsP.at_len {w : World} {v : Value} {ps : List Pos} {n : Nat} (h : IsP w v ps) (hn : ps.length = n) : ∃ x cap, v = .slice x n cap ∧ n ≤ cap ∧ cap ≤ maxLen := by
  subst hn
  exact IsX.slice h
theorem IsP.own {w : World} {base : Nat} {e : TypeId} {v : Value} {ps : List Pos} {n : Nat} (h : w.ownsRow base e 5 v n (pcs ps)) (hn : n = ps.length) : IsP w v ps := by
  subst hn
  exact IsX.own h
theorem len_P {P : Program} {w : World} {v : Value} {ps : List Pos} (hv : IsP w v ps) {n : Nat} (hn : ps.length = n) (T ty U : TypeId) (ht : P.underlying T = some (.slice U)) (W : World) : (Builtin.len_ #[T] ty #[v]).run P W = .ok (.int .i64 (n : Int)) W := by
  subst hn
  exact len_X hv T ty U ht W
theorem pcells_at {w : World} {b o : Nat} {ps : List Pos} {i : Nat} (hi : i < ps.length) (h : ∀ j, j < 5 → w.cell? ⟨b, o + j, none⟩ = (pcs ps)[i * 5 + j]?) : PCells w b o (pat ps i) := by
  have c : ∀ j, j < 5 → w.cell? ⟨b, o + j, none⟩ = (pcells (pat ps i))[j]? := fun j hj => by rw [h j hj, pcs_get (get_pat hi) j hj]
  exact ⟨c 0 (by decide), c 1 (by decide), c 2 (by decide), c 3 (by decide), c 4 (by decide)⟩
theorem indexAt_P {P : Program} {w : World} {v : Value} {ps : List Pos} (hv : IsP w v ps) (T U : TypeId) (ht : P.underlying T = some (.slice U)) (hs : (P.info? U).map (·.size) = some 5) (i : Nat) (hi : i < ps.length) :
    ∃ b o, (∀ W, (Instr.indexAt T v (.int .i64 (i : Int))).run P W = .ok (.pointer (some ⟨b, o, none⟩)) W) ∧ PCells w b o (pat ps i) := by
  obtain ⟨b, o, h1, _, h3⟩ := indexAt_X hv T U ht hs i hi
  exact ⟨b, o, h1, pcells_at hi h3⟩

end Go.Proofs.YtllbngopfganjaaGreatDoor.Q
end

section
namespace Go.Proofs.YtllbngopfganjaaGreatDoor.Q
open Go.RowKit Go.Cor

/-- How two keys stand to each other. -/
def cmpK (a b : Nat) : Int := if a < b then -1 else if b < a then 1 else 0
theorem cmpK_neg {a b : Nat} : cmpK a b < 0 ↔ a < b := by
  unfold cmpK
  split
  · simp_all
  · split <;> simp_all
theorem cmpK_zero {a b : Nat} : cmpK a b = 0 ↔ a = b := by
  unfold cmpK
  split
  · simp; omega
  · split
    · simp; omega
    · simp; omega

theorem nan_any (a : Nat) (w : World) :
    Calls Tryz.prog 137 #[.int .u64 (a : Int)] w fun e w' => e = .returned (.bool false) ∧ w = w' := by
  go_enter Tryz.func137, Tryz.ntmps137
  go_wp2
  go_ret
  exact ⟨by simp, rfl⟩
theorem compare_any (a b : Nat) (w : World) :
    Calls Tryz.prog 114 #[.int .u64 (a : Int), .int .u64 (b : Int)] w fun e w' => e = .returned (.int .i64 (cmpK a b)) ∧ w = w' := by
  by_cases h1 : a < b
  · have e : cmpK a b = -1 := if_pos h1
    have h1' : (a : Int) < (b : Int) := by omega
    rw [e]
    go_enter Tryz.func114, Tryz.ntmps114
    go_wp2_with (go_at_call 137; refine (nan_any _ _).mono ?_; rintro e w' ⟨rfl, rfl⟩)
    go_ret
    exact ⟨rfl, rfl⟩
  · have h1' : ¬ (a : Int) < (b : Int) := by omega
    by_cases h2 : b < a
    · have e : cmpK a b = 1 := by unfold cmpK; rw [if_neg h1, if_pos h2]
      have h2' : (b : Int) < (a : Int) := by omega
      rw [e]
      go_enter Tryz.func114, Tryz.ntmps114
      go_wp2_with (go_at_call 137; refine (nan_any _ _).mono ?_; rintro e w' ⟨rfl, rfl⟩)
      go_ret
      exact ⟨rfl, rfl⟩
    · have e : cmpK a b = 0 := by unfold cmpK; rw [if_neg h1, if_neg h2]
      have h2' : ¬ (b : Int) < (a : Int) := by omega
      rw [e]
      go_enter Tryz.func114, Tryz.ntmps114
      go_wp2_with (go_at_call 137; refine (nan_any _ _).mono ?_; rintro e w' ⟨rfl, rfl⟩)
      go_ret
      exact ⟨rfl, rfl⟩
theorem closure_any (p : Pos) (k : Nat) (w : World) :
    Calls Tryz.prog 113 #[pval p, .int .u64 (k : Int)] w fun e w' => e = .returned (.int .i64 (cmpK p.key k)) ∧ Below w.heap.size w w' := by
  go_enter Tryz.func113, Tryz.ntmps113
  go_wp2_with (go_at_call 114; refine (compare_any _ _ _).mono ?_; rintro e w' ⟨rfl, rfl⟩)
  go_ret
  exact ⟨rfl, (Below.refl _ _).alloc (Nat.le_refl _) _⟩

set_option maxRecDepth 100000 in
set_option maxHeartbeats 1000000 in
theorem search_any (v : Value) (l : List Pos) (k : Nat) (w : World) (hv : IsP w v l) (hs : Asc l) (hl : l.length ≤ 1048576) :
    Calls Tryz.prog 112 #[v, .int .u64 (k : Int), .func (.func 113) #[] #[]] w fun e w' => e = .returned (.tuple #[.int .i64 (psn l k), .bool (fnd l k).isSome]) ∧ Below w.heap.size w w' := by
  obtain ⟨N, hN⟩ : ∃ N, l.length = N := ⟨_, rfl⟩
  obtain ⟨q, hq⟩ : ∃ q, psn l k = q := ⟨_, rfl⟩
  obtain ⟨r, hr⟩ : ∃ r, (fnd l k).isSome = r := ⟨_, rfl⟩
  have hqN := psn_le l k
  have hlen := fun W => len_P (P := Tryz.prog) hv hN 121 3 124 Tryz.underlying121 W
  rw [hN] at hqN hl
  rw [hq] at hqN
  rw [hq, hr]
  have HV := Lib.hid hv
  have HN := Lib.hid hN
  have HQ := Lib.hid hq
  have HR := Lib.hid hr
  clear hv hN hq hr
  go_enter Tryz.func112, Tryz.ntmps112
  go_wp2
  go_loopw [9, 10] (fun a b wr => ∃ i j : Nat, i ≤ q ∧ q ≤ j ∧ j ≤ N ∧ a = .int .i64 i ∧ b = .int .i64 j ∧ Hid (Below w.heap.size w wr)) (fun a b _ => (intOf b).toNat - (intOf a).toNat)
  case atStart => exact ⟨0, N, Nat.zero_le _, hqN, Nat.le_refl _, rfl, rfl, Lib.hid (Below.refl _ _)⟩
  case round =>
    obtain ⟨i, j, hiq, hqj, hjN, rfl, rfl, hB⟩ := hrel
    by_cases hlt : i < j
    · obtain ⟨e, he⟩ : ∃ e, pat l ((i + j) / 2) = e := ⟨_, rfl⟩
      have hget : l[(i + j) / 2]? = some e := by rw [← he]; exact get_pat (by rw [HN.out]; omega)
      obtain ⟨b, o, hidx, c0, c1, c2, c3, c4⟩ := indexAt_P (HV.out.mono hB.out (Nat.le_refl _)) 121 124 Tryz.underlying121 Tryz.sizePos ((i + j) / 2) (by rw [HN.out]; omega)
      rw [he] at c0 c1 c2 c3 c4
      rw [show ((((i + j) / 2 : Nat)) : Int) = ((i : Int) + (j : Int)) / 2 from by omega] at hidx
      have HE := Lib.hid hget
      obtain ⟨c, hc⟩ : ∃ c, cmpK e.key k = c := ⟨_, rfl⟩
      have HCM := Lib.hid hc
      clear he hc hget
      go_wp2_with fail
      refine (closure_any e _ _).mono ?_
      rintro e2 w2 ⟨rfl, hb2⟩
      rw [HCM.out]
      have HB2 := Lib.hid (hB.out.trans (hb2.mono hB.out.size))
      clear hb2 c0 c1 c2 c3 c4 hidx
      by_cases hneg : c < 0
      · have hiq2 : (i + j) / 2 + 1 ≤ q := by
          by_cases h : (i + j) / 2 < q
          · exact h
          · have h2 := psn_above (k := k) hs HE.out (by rw [HQ.out]; omega)
            have h3 := cmpK_neg.1 (by rw [HCM.out]; exact hneg)
            omega
        go_wp2
        go_roundw
        case rel => exact ⟨(i + j) / 2 + 1, j, hiq2, hqj, hjN, by congr 1, rfl, HB2⟩
        case measure => simp [intOf]; omega
      · have hqj2 : q ≤ (i + j) / 2 := by
          by_cases h : (i + j) / 2 < q
          · have h2 := psn_below (k := k) HE.out (by rw [HQ.out]; omega)
            have h3 := cmpK_neg.2 h2
            rw [HCM.out] at h3
            omega
          · omega
        go_wp2
        go_roundw
        case rel => exact ⟨i, (i + j) / 2, hiq, hqj2, by omega, rfl, by congr 1, HB2⟩
        case measure => simp [intOf]; omega
    · obtain rfl : i = q := by omega
      by_cases hiN : i < N
      · obtain ⟨e, he⟩ : ∃ e, pat l i = e := ⟨_, rfl⟩
        have hget : l[i]? = some e := by rw [← he]; exact get_pat (by rw [HN.out]; omega)
        obtain ⟨b, o, hidx, c0, c1, c2, c3, c4⟩ := indexAt_P (HV.out.mono hB.out (Nat.le_refl _)) 121 124 Tryz.underlying121 Tryz.sizePos i (by rw [HN.out]; omega)
        rw [he] at c0 c1 c2 c3 c4
        obtain ⟨c, hc⟩ : ∃ c, cmpK e.key k = c := ⟨_, rfl⟩
        have HCM := Lib.hid hc
        have hrc : r = (c == 0) := by
          rw [← HR.out, fnd, HQ.out, hget, ← hc, Option.filter_some]
          by_cases hen : e.key = k
          · rw [cmpK_zero.2 hen]
            simp [hen]
          · have h1 : cmpK e.key k ≠ 0 := fun h => hen (cmpK_zero.1 h)
            simp [hen, h1]
        have HRC := Lib.hid hrc
        clear he hc hget hrc
        go_wp2_with fail
        refine (closure_any e _ _).mono ?_
        rintro e2 w2 ⟨rfl, hb2⟩
        rw [HCM.out]
        have HB2 := Lib.hid (hB.out.trans (hb2.mono hB.out.size))
        clear hb2 c0 c1 c2 c3 c4 hidx
        go_wp2
        go_ret2
        exact ⟨by rw [HRC.out]; rfl, HB2.out⟩
      · have hrf : r = false := by
          rw [← HR.out, fnd, HQ.out, List.getElem?_eq_none (by rw [HN.out]; omega)]
          rfl
        subst hrf
        go_wp2
        go_ret2
        exact ⟨rfl, hB.out⟩

theorem place_any (v : Value) (l : List Pos) (k : Nat) (w : World) (hv : IsP w v l) (hs : Asc l) (hl : l.length ≤ 1048576) :
    Calls Tryz.prog 88 #[v, .int .u64 (k : Int)] w fun e w' => e = .returned (.tuple #[.int .i64 (psn l k), .bool (fnd l k).isSome]) ∧ Below w.heap.size w w' := by
  go_enter Tryz.func88, Tryz.ntmps88
  go_wp2_with fail
  refine (search_any v l k _ hv hs hl).mono ?_
  rintro e w' ⟨rfl, hb⟩
  go_wp2
  go_ret2
  exact ⟨rfl, hb⟩

end Go.Proofs.YtllbngopfganjaaGreatDoor.Q
end

section
namespace Go.Proofs.YtllbngopfganjaaGreatDoor.Q
open Go.RowKit Go.Cor


set_option maxRecDepth 100000 in
set_option maxHeartbeats 2000000 in
theorem walk_grow (V V0 VI SV V2 VD1 VD2 : Value) (i N k : Nat) (w w1 w2 w3 : World) (hi : i < N) (hl : N ≤ 1048576) (hkk : (N : Int) + 1 - (i : Int) = (k : Int)) (hne : ((i : Int) == (N : Int)) = false) (hgt : ¬ ((N : Int) + 1 ≤ (N : Int)))
    (hlen : ∀ W, (Builtin.len_ #[121] 3 #[V]).run Tryz.prog W = .ok (.int .i64 (N : Int)) W) (hcap : ∀ (W : World) (ty : TypeId), (Builtin.cap_ #[121] ty #[V]).run Tryz.prog W = .ok (goInt N) W)
    (hS1 : ∀ W, (Builtin.len_ #[121] 3 #[SV]).run Tryz.prog W = .ok (.int .i64 1) W)
    (hsI : ∀ W, (Instr.slice 121 V (some (.int .i64 (i : Int))) none none).run Tryz.prog W = .ok VI W)
    (hs0 : ∀ W, (Instr.slice 121 V none (some (.int .i64 (i : Int))) none).run Tryz.prog W = .ok V0 W)
    (hsD1 : ∀ W, (Instr.slice 121 V2 (some (.int .i64 (i : Int))) none none).run Tryz.prog W = .ok VD1 W)
    (hsD2 : ∀ W, (Instr.slice 121 V2 (some (.int .i64 ((i : Int) + 1))) none none).run Tryz.prog W = .ok VD2 W)
    (HAP : Hid ((Builtin.append_ #[121, 3] 121 #[V0, .int .i64 (k : Int)]).run Tryz.prog w = .ok V2 w1)) (x1 x2 : Value)
    (HC1 : Hid (∀ ty, (Builtin.copy_ #[121, 121] ty #[VD1, SV]).run Tryz.prog w1 = .ok x1 w2))
    (HC2 : Hid (∀ ty, (Builtin.copy_ #[121, 121] ty #[VD2, VI]).run Tryz.prog w2.drew = .ok x2 w3)) (hwr : IntKind.i64.wrap ((i : Int) + 1) = (i : Int) + 1) :
    Calls Tryz.prog 89 #[V, .int .i64 (i : Int), SV] w fun e w' => e = .returned V2 ∧ w' = w3 := by
  go_enter Tryz.func89, Tryz.ntmps89
  go_wp2_with (first | (at_builtin; refine Lib.wpList_append_run _ rfl _ _ 121 3 rfl _ _ rfl rfl _ _ HAP.out ?_) | (refine wpList_copy_run (o := ⟨some 45, _, _, _, _, _⟩) rfl _ _ 121 121 rfl _ _ rfl rfl (HC1.out _) ?_))
  go_region_held3 (fun _ => True) (trivial) (first | (refine step_copy_run rfl _ _ 121 121 rfl _ _ rfl rfl (HC2.out _) ?_))
  go_wp2
  go_ret
  exact ⟨rfl, rfl⟩

set_option maxRecDepth 100000 in
set_option maxHeartbeats 2000000 in
theorem walk_room (V V3 VI VS VD SV : Value) (i N cap : Nat) (w w2 w3 : World) (hi : i < N) (hl : N ≤ 1048576) (hne : ((i : Int) == (N : Int)) = false) (hgt : (N : Int) + 1 ≤ (cap : Int))
    (hlen : ∀ W, (Builtin.len_ #[121] 3 #[V]).run Tryz.prog W = .ok (.int .i64 (N : Int)) W) (hcap : ∀ (W : World) (ty : TypeId), (Builtin.cap_ #[121] ty #[V]).run Tryz.prog W = .ok (goInt cap) W)
    (hS1 : ∀ W, (Builtin.len_ #[121] 3 #[SV]).run Tryz.prog W = .ok (.int .i64 1) W)
    (hsI : ∀ W, (Instr.slice 121 V (some (.int .i64 (i : Int))) none none).run Tryz.prog W = .ok VI W)
    (hs3 : ∀ W, (Instr.slice 121 V none (some (.int .i64 ((N : Int) + 1))) none).run Tryz.prog W = .ok V3 W)
    (hsS : ∀ W, (Instr.slice 121 V3 (some (.int .i64 (i : Int))) none none).run Tryz.prog W = .ok VS W)
    (hsD : ∀ W, (Instr.slice 121 V3 (some (.int .i64 ((i : Int) + 1))) none none).run Tryz.prog W = .ok VD W)
    (hov : (callFunc 115 #[SV, VD]).run Tryz.prog w = .ok (.value (.bool false)) w) (x1 x2 : Value)
    (HC1 : Hid (∀ ty, (Builtin.copy_ #[121, 121] ty #[VD, VS]).run Tryz.prog w.drew = .ok x1 w2))
    (HC2 : Hid (∀ ty, (Builtin.copy_ #[121, 121] ty #[VS, SV]).run Tryz.prog w2 = .ok x2 w3)) (hwr : IntKind.i64.wrap ((i : Int) + 1) = (i : Int) + 1) :
    Calls Tryz.prog 89 #[V, .int .i64 (i : Int), SV] w fun e w' => e = .returned V3 ∧ w' = w3 := by
  go_enter Tryz.func89, Tryz.ntmps89
  go_wp2_with (simp only [hov])
  go_region_held3 (fun _ => True) (trivial) (first | (refine step_copy_run rfl _ _ 121 121 rfl _ _ rfl rfl (HC1.out _) ?_))
  go_wp2_with (refine wpList_copy_run (o := ⟨some 82, _, _, _, _, _⟩) rfl _ _ 121 121 rfl _ _ rfl rfl (HC2.out _) ?_)
  go_ret
  exact ⟨rfl, rfl⟩



theorem srcOf {w : World} {size : Nat} {ad : Addr} {n c : Nat} {cs : List Value} (h : IsX w size (.slice (some ad) n c) n cs) : ∀ j u, cs[j]? = some u → w.cell? (ad.add j) = some u := by
  intro j u hj
  obtain ⟨a', c', e', k1, k2, k3, k4, k5⟩ := h
  cases e'
  have hjl := (List.getElem?_eq_some_iff.1 hj).1
  rcases k5 with k5 | ⟨b, off, e1, hc⟩
  · subst k5
    rw [Nat.zero_mul] at k3
    omega
  · cases e1
    rw [add_lit]
    exact (hc j (by rw [← k3]; exact hjl)).trans hj
theorem entX {w : World} {a : Nat} {p : Pos} {T : TypeId} (ha : w.heap[a]? = some (.cells #[.int .u64 (p.key : Int), .int .i64 p.off, .int .i64 p.len, .int .u32 (p.cookie : Int), .bool p.gone] T (0, 0))) : IsX w 5 (.slice (some ⟨a, 0, none⟩) 1 1) 1 (pcells p) := by
  refine ⟨_, _, rfl, Nat.le_refl _, by unfold maxLen; omega, rfl, by simp, .inr ⟨a, 0, rfl, fun j hj => ?_⟩⟩
  rw [cell_of_row w a _ _ _ _ ha, Nat.zero_add]
  match j, hj with
  | 0, _ => rfl
  | 1, _ => rfl
  | 2, _ => rfl
  | 3, _ => rfl
  | 4, _ => rfl

set_option maxRecDepth 100000 in
set_option maxHeartbeats 1000000 in
/-- At the end. -/
theorem tins_end (v : Value) (l : List Pos) (p : Pos) (a : Nat) (w : World) (hv : w.ownsRow 0 124 5 v l.length (row pcells l)) (hl : l.length ≤ 1048576)
    (ha : w.heap[a]? = some (.cells #[.int .u64 (p.key : Int), .int .i64 p.off, .int .i64 p.len, .int .u32 (p.cookie : Int), .bool p.gone] 124 (0, 0))) :
    Calls Tryz.prog 89 #[v, .int .i64 (l.length : Int), .slice (some ⟨a, 0, none⟩) 1 1] w fun e w' =>
      ∃ v', e = .returned v' ∧ w'.ownsRow 0 124 5 v' (l.length + 1) (row pcells (l ++ [p])) ∧ Kept (fun k => v.ownBlock = some k) w w' ∧ (v'.ownBlock = v.ownBlock ∨ v'.ownBlock = some w.heap.size) := by
  obtain ⟨i0, hinf, hz0, hz1, hz2⟩ := info_parts Tryz.infoPos
  have hT := Tryz.underlying121
  have hX := IsX.own hv
  have hS := entX ha
  obtain ⟨x, cap, rfl, hlc, hcm⟩ := hX.slice
  obtain ⟨v', w1, hap, hown1, hgr1, hat1⟩ := run_append_X (P := Tryz.prog) w 0 121 _ 121 i0 _ 5 32 hT hinf hz0 hz1 hz2 rfl (by decide) _ _ _ hv _ 1 _ hS (pcells_one p) (by unfold maxLen; omega) (by omega) (Nat.zero_le _)
  obtain ⟨N, hN⟩ : ∃ N, l.length = N := ⟨_, rfl⟩
  rw [hN] at hX hl hlc hv hap hown1 hgr1 hat1 ⊢
  have hs1 := slice_l_X (P := Tryz.prog) hX 121 _ hT Tryz.sizePos N (by omega)
  have hlen := fun W => len_X (P := Tryz.prog) hX 121 3 _ hT W
  have HAP := Lib.hid hap
  have HO := Lib.hid (show w1.ownsRow 0 124 5 v' (N + 1) (row pcells (l ++ [p])) from by rw [row_append, row_one]; exact hown1)
  have HK := Lib.hid (show Kept (fun k => (Value.slice x N cap).ownBlock = some k) w w1 from (Kept.refl _ w).grown hgr1 (fun k hk => .inl hk))
  have HA := Lib.hid hat1
  clear hap hown1 hgr1 hat1 hv hX hN
  generalize sliced x N N cap 5 = VI at *
  generalize Value.slice x N cap = V at *
  go_enter Tryz.func89, Tryz.ntmps89
  go_wp2_with (at_builtin; refine Lib.wpList_append_run _ rfl _ _ 121 121 rfl _ _ rfl rfl _ _ HAP.out ?_)
  go_ret
  exact ⟨_, rfl, HO.out, HK.out, HA.out⟩

set_option maxRecDepth 100000 in
set_option maxHeartbeats 2000000 in
/-- In the midst, where there is no room. -/
theorem tins_grow (l : List Pos) (p : Pos) (a g i N cap : Nat) (w : World) (hv : w.ownsRow 0 124 5 (.slice (some ⟨g, 0, none⟩) N cap) N (row pcells l)) (hN : l.length = N) (hi : i < N) (hl : N ≤ 1048576) (hroom : cap < N + 1) (hcm : cap ≤ maxLen) (hga : g ≠ a)
    (ha : w.heap[a]? = some (.cells #[.int .u64 (p.key : Int), .int .i64 p.off, .int .i64 p.len, .int .u32 (p.cookie : Int), .bool p.gone] 124 (0, 0))) :
    Calls Tryz.prog 89 #[.slice (some ⟨g, 0, none⟩) N cap, .int .i64 (i : Int), .slice (some ⟨a, 0, none⟩) 1 1] w fun e w' =>
      ∃ v', e = .returned v' ∧ w'.ownsRow 0 124 5 v' (N + 1) (row pcells (l.take i ++ p :: l.drop i)) ∧ Kept (fun k => some g = some k) w w' ∧ (v'.ownBlock = some g ∨ v'.ownBlock = some w.heap.size) := by
  obtain ⟨i0, hinf, hz0, hz1, hz2⟩ := info_parts Tryz.infoPos
  have hT := Tryz.underlying121
  have hX := IsX.own hv
  have hS := entX ha
  have hlr := length_row (pcells_len) l
  rw [hN] at hlr
  have hcap : N = cap := by
    obtain ⟨x', c', e', h1, _⟩ := hX.slice
    cases e'
    omega
  subst hcap
  have halt : a < w.heap.size := (Array.getElem?_eq_some_iff.1 ha).1
  have hglt := (hv.lt g rfl).2
  have hs0 := slice_h_X (P := Tryz.prog) 5 (some ⟨g, 0, none⟩) N N 121 _ hT Tryz.sizePos i (by omega)
  have hsI := slice_l_X (P := Tryz.prog) hX 121 _ hT Tryz.sizePos i (by omega)
  have hXI := hX.piece (lo := i) (hi := N) (by omega) (Nat.le_refl _)
  rw [sliced_at _ _ _ _ _ _ (by omega), Nat.zero_add] at hsI hXI
  have hB : ((row pcells l).drop (i * 5)).take ((N - i) * 5) = (row pcells l).drop (i * 5) := List.take_of_length_le (by rw [List.length_drop, hlr]; omega)
  rw [hB] at hXI
  have hlen := fun W => len_X (P := Tryz.prog) hX 121 3 _ hT W
  have hown0 := ownsRow_take hv (Nat.le_of_lt hi)
  have hl0 : ((row pcells l).take (i * 5)).length = i * 5 := by rw [List.length_take, hlr]; omega
  have hlB : ((row pcells l).drop (i * 5)).length = (N - i) * 5 := by rw [List.length_drop, hlr]; omega
  have hold : (Builtin.firstCells i0.size i (.slice (some ⟨g, 0, none⟩) i N)).run Tryz.prog w.drew = .ok ((row pcells l).take (i * 5)).toArray w.drew :=
    run_firstCells_some (P := Tryz.prog) w.drew i0.size i ⟨g, 0, none⟩ i N _ (by rw [hz1]; exact hl0) (fun j u hj => hown0.cells (g := g) rfl j u hj)
  obtain ⟨k, hk⟩ : ∃ k, N + 1 - i = k := ⟨_, rfl⟩
  have hap := Lib.run_append_grow_zeros (P := Tryz.prog) w 121 3 121 _ i0 _ .i64 .i64 hT Tryz.underlying3 hinf hz0 (some ⟨g, 0, none⟩) i N _ hold k (by omega) (by omega) (by omega) (by omega) (by rw [hz2]; omega) (growslice_fits (by omega) (by rw [hz2]; omega))
  have hik : i + k = N + 1 := by omega
  rw [hik] at hap
  obtain ⟨c2, hc2⟩ : ∃ c2, grownCap w (N + 1) N 124 = c2 := ⟨_, rfl⟩
  have hc2ge := grownCap_ge w (N + 1) N 124
  have hc2le := grownCap_le_maxLen w (N + 1) N 124 (by unfold maxLen; omega)
  rw [hc2] at hap hc2ge hc2le
  obtain ⟨L0, hL0⟩ : ∃ L0, ((row pcells l).take (i * 5)).toArray ++ Builtin.zeroCells (Value.agg #[.int .u64 0, .int .i64 0, .int .i64 0, .int .u32 0, .bool false]).cells k ++ Builtin.zeroCells (Value.agg #[.int .u64 0, .int .i64 0, .int .i64 0, .int .u32 0, .bool false]).cells (c2 - (N + 1)) = L0 := ⟨_, rfl⟩
  rw [hL0] at hap
  have hzs : (Value.agg #[.int .u64 0, .int .i64 0, .int .i64 0, .int .u32 0, .bool false]).cells.size = 5 := by kernel_rfl
  have hL0s : L0.size = c2 * 5 := by
    rw [← hL0]
    simp only [Array.size_append, List.size_toArray, size_zeroCells, hzs, hl0]
    omega
  have hL0l : L0.toList.length = c2 * 5 := by rw [Array.length_toList]; exact hL0s
  have hL0t : L0.toList.take (i * 5) = (row pcells l).take (i * 5) := by
    rw [← hL0]
    simp only [Array.toList_append, List.append_assoc]
    exact List.take_left' hl0
  obtain ⟨w1, hw1⟩ : ∃ w1, w.drew.alloc (.cells L0 124) = w1 := ⟨_, rfl⟩
  have hg1 : w1.heap[w.heap.size]? = some (.cells L0 124 (0, 0)) := by rw [← hw1]; exact heap_alloc_new w.drew _
  have hK1 : Kept (fun k => some g = some k) w w1 := by rw [← hw1]; exact ((Kept.refl _ w).drew).alloc _
  rw [hw1] at hap
  -- the entry
  have hsD1 := slice_l_C (P := Tryz.prog) 5 (some ⟨w.heap.size, 0, none⟩) (N + 1) c2 121 _ hT Tryz.sizePos i (by omega)
  rw [sliced_at _ _ _ _ _ _ (by omega), Nat.zero_add] at hsD1
  have hcp1 := fun ty => run_copy_X (P := Tryz.prog) w1 121 121 ty _ 5 w.heap.size (i * 5) (N + 1 - i) (c2 - i) ⟨a, 0, none⟩ 1 1 1 L0 _ (pcells p) hT Tryz.sizePos hg1 (by simp only [Nat.min_def]; split <;> omega) rfl
      (srcOf (hS.kept hK1 (fun j hj he => by
        have e1 : a = j := by simpa [Value.ownBlock] using hj.2
        have e2 : g = j := by simpa using he
        omega))) (by rw [hL0s]; show i * 5 + 5 ≤ _; omega) (pcells_one p)
  obtain ⟨L1, hL1⟩ : ∃ L1, (L0.toList.take (i * 5) ++ pcells p ++ L0.toList.drop (i * 5 + (pcells p).length)) = L1 := ⟨_, rfl⟩
  rw [hL1] at hcp1
  obtain ⟨w2, hw2⟩ : ∃ w2, w1.setRow w.heap.size L1.toArray = w2 := ⟨_, rfl⟩
  have hg2 : w2.heap[w.heap.size]? = some (.cells L1.toArray 124 (0, 0)) := by rw [← hw2]; exact setRow_heap w1 _ L0 _ _ _ hg1
  have hK2 : Kept (fun k => some g = some k) w w2 := by rw [← hw2]; exact hK1.setRow (.inr (Nat.le_refl _)) _
  rw [hw2] at hcp1
  have hL1s : L1.length = c2 * 5 := by
    rw [← hL1]
    simp only [List.length_append, List.length_take, List.length_drop, Array.length_toList, hL0s]
    show min (i * 5) (c2 * 5) + 5 + (c2 * 5 - (i * 5 + 5)) = _
    omega
  -- what stood behind
  have hsD2 := slice_l_C (P := Tryz.prog) 5 (some ⟨w.heap.size, 0, none⟩) (N + 1) c2 121 _ hT Tryz.sizePos (i + 1) (by omega)
  rw [sliced_at _ _ _ _ _ _ (by omega), Nat.zero_add, show N + 1 - (i + 1) = N - i from by omega] at hsD2
  have hXI2 : IsX w2.drew 5 (.slice (some ⟨g, i * 5, none⟩) (N - i) (N - i)) (N - i) ((row pcells l).drop (i * 5)) := by
    refine hXI.kept (S := fun k => w.heap.size ≤ k) ?_ (fun j hj he => ?_)
    · rw [← hw2, ← hw1]
      exact ((((Kept.refl _ w).drew).alloc _).setRow (.inl (Nat.le_refl _)) _).drew
    · have e1 : g = j := by simpa [Value.ownBlock] using hj.2
      omega
  have hcp2 := fun ty => run_copy_X (P := Tryz.prog) w2.drew 121 121 ty _ 5 w.heap.size ((i + 1) * 5) (N - i) (c2 - (i + 1)) ⟨g, i * 5, none⟩ (N - i) (N - i) (N - i) L1.toArray _ ((row pcells l).drop (i * 5)) hT Tryz.sizePos hg2 (by simp only [Nat.min_def]; split <;> omega) hlB
      (srcOf hXI2) (by rw [List.size_toArray, hL1s, hlB]; omega) (fun u hu => pcs_one l u (List.mem_of_mem_drop hu))
  obtain ⟨L2, hL2⟩ : ∃ L2, (L1.toArray.toList.take ((i + 1) * 5) ++ (row pcells l).drop (i * 5) ++ L1.toArray.toList.drop ((i + 1) * 5 + ((row pcells l).drop (i * 5)).length)) = L2 := ⟨_, rfl⟩
  rw [hL2] at hcp2
  obtain ⟨w3, hw3⟩ : ∃ w3, w2.drew.setRow w.heap.size L2.toArray = w3 := ⟨_, rfl⟩
  have hg3 : w3.heap[w.heap.size]? = some (.cells L2.toArray 124 (0, 0)) := by rw [← hw3]; exact setRow_heap w2.drew _ L1.toArray _ _ _ hg2
  have hK3 : Kept (fun k => some g = some k) w w3 := by rw [← hw3]; exact (hK2.drew).setRow (.inr (Nat.le_refl _)) _
  rw [hw3] at hcp2
  have hlist := ins_list2 L0.toList ((row pcells l).take (i * 5)) (pcells p) ((row pcells l).drop (i * 5)) (i * 5) 5 hL0t rfl (by rw [hL0l, hlB]; omega)
  rw [show i * 5 + 5 = i * 5 + (pcells p).length from rfl, hL1, show i * 5 + (pcells p).length = (i + 1) * 5 from by show i * 5 + 5 = _; omega] at hlist
  rw [show L1 = L1.toArray.toList from rfl, hL2, hlB, show (i + 1) * 5 + (N - i) * 5 = (N + 1) * 5 from by omega] at hlist
  have hO3 : w3.ownsRow 0 124 5 (.slice (some ⟨w.heap.size, 0, none⟩) (N + 1) c2) (N + 1) (row pcells (l.take i ++ p :: l.drop i)) := by
    have e : row pcells (l.take i ++ p :: l.drop i) = (row pcells l).take (i * 5) ++ pcells p ++ (row pcells l).drop (i * 5) := by
      rw [row_append, row_cons, row_take (pcells_len), row_drop (pcells_len), List.append_assoc]
    rw [e]
    refine ⟨by simp only [List.length_append, hl0, hlB]; show i * 5 + 5 + _ = _; omega, .inr ⟨w.heap.size, c2, _, rfl, Nat.zero_le _, hg3, hc2ge, hc2le, ?_, ?_⟩⟩
    · rw [List.size_toArray, hlist.2, hL0l]
    · rw [List.toList_toArray]
      exact hlist.1
  have HO := Lib.hid hO3
  have HK := Lib.hid hK3
  have HAP := Lib.hid hap
  have HC1 := Lib.hid hcp1
  have HC2 := Lib.hid hcp2
  have hne : ((i : Int) == (N : Int)) = false := by simp; omega
  have hgt : ¬ ((N : Int) + 1 ≤ (N : Int)) := by omega
  have hkk : (N : Int) + 1 - (i : Int) = (k : Int) := by omega
  have hS1 := fun W => len_X (P := Tryz.prog) hS 121 3 _ Tryz.underlying121 W
  have hcap := fun (W : World) (ty : TypeId) => run_cap_slice (P := Tryz.prog) W 121 ty (some ⟨g, 0, none⟩) N N (by simp [Program.elem, hT])
  rw [show ((i + 1 : Nat) : Int) = (i : Int) + 1 from rfl] at hsD2
  have HB := Lib.hid (show Value.ownBlock (.slice (some ⟨w.heap.size, 0, none⟩) (N + 1) c2) = some w.heap.size from rfl)
  have hwr : IntKind.i64.wrap ((i : Int) + 1) = (i : Int) + 1 := IntWalk.i64_in _ (by omega)
  refine (walk_grow _ _ _ _ _ _ _ i N k w w1 w2 w3 hi hl hkk hne hgt hlen hcap hS1 hsI hs0 hsD1 hsD2 HAP _ _ HC1 HC2 hwr).mono fun e w' => ?_
  rintro ⟨rfl, rfl⟩
  exact ⟨_, rfl, HO.out, HK.out, .inr HB.out⟩

set_option maxRecDepth 100000 in
set_option maxHeartbeats 2000000 in
/-- In the midst, where there is room. -/
theorem tins_room (l : List Pos) (p : Pos) (a g i N cap : Nat) (w : World) (hv : w.ownsRow 0 124 5 (.slice (some ⟨g, 0, none⟩) N cap) N (row pcells l)) (hN : l.length = N) (hi : i < N) (hl : N ≤ 1048576) (hroom : N + 1 ≤ cap) (hcm : cap ≤ maxLen) (hga : g ≠ a)
    (ha : w.heap[a]? = some (.cells #[.int .u64 (p.key : Int), .int .i64 p.off, .int .i64 p.len, .int .u32 (p.cookie : Int), .bool p.gone] 124 (0, 0))) :
    Calls Tryz.prog 89 #[.slice (some ⟨g, 0, none⟩) N cap, .int .i64 (i : Int), .slice (some ⟨a, 0, none⟩) 1 1] w fun e w' =>
      ∃ v', e = .returned v' ∧ w'.ownsRow 0 124 5 v' (N + 1) (row pcells (l.take i ++ p :: l.drop i)) ∧ Kept (fun k => some g = some k) w w' ∧ (v'.ownBlock = some g ∨ v'.ownBlock = some w.heap.size) := by
  obtain ⟨i0, hinf, hz0, hz1, hz2⟩ := info_parts Tryz.infoPos
  have hT := Tryz.underlying121
  have hX := IsX.own hv
  have hS := entX ha
  have hlr := length_row (pcells_len) l
  rw [hN] at hlr
  rcases hv.2 with ⟨hbad, _⟩ | ⟨g', cap', cur, he, _, hg, _, _, hcs, htake⟩
  · cases hbad
  cases he
  have halt : a < w.heap.size := (Array.getElem?_eq_some_iff.1 ha).1
  have hsI := slice_l_X (P := Tryz.prog) hX 121 _ hT Tryz.sizePos i (by omega)
  rw [sliced_at _ _ _ _ _ _ (by omega), Nat.zero_add] at hsI
  have hlB : ((row pcells l).drop (i * 5)).length = (N - i) * 5 := by rw [List.length_drop, hlr]; omega
  have hlen := fun W => len_X (P := Tryz.prog) hX 121 3 _ hT W
  have hs3 := slice_h_X (P := Tryz.prog) 5 (some ⟨g, 0, none⟩) N cap 121 _ hT Tryz.sizePos (N + 1) hroom
  have hsD := slice_l_C (P := Tryz.prog) 5 (some ⟨g, 0, none⟩) (N + 1) cap 121 _ hT Tryz.sizePos (i + 1) (by omega)
  rw [sliced_at _ _ _ _ _ _ (by omega), Nat.zero_add, show N + 1 - (i + 1) = N - i from by omega] at hsD
  have hsS := slice_l_C (P := Tryz.prog) 5 (some ⟨g, 0, none⟩) (N + 1) cap 121 _ hT Tryz.sizePos i (by omega)
  rw [sliced_at _ _ _ _ _ _ (by omega), Nat.zero_add] at hsS
  have hsz : ∀ W, (sizeOf 124).run Tryz.prog W = .ok 5 W := fun W => by simp [sizeOf, typeInfo, hinf, hz1]
  have hov : (callFunc 115 #[.slice (some ⟨a, 0, none⟩) 1 1, .slice (some ⟨g, (i + 1) * 5, none⟩) (N - i) (cap - (i + 1))]).run Tryz.prog w = .ok (.value (.bool false)) w := by
    rw [run_callFunc_extern Tryz.func115 (by kernel_rfl) (by kernel_rfl) (by kernel_rfl) (e := Extern.SlicesOverlaps.overlaps #[121, 121] #[4]) (by kernel_rfl),
      Lib.run_overlaps_apart w 121 4 124 Tryz.underlying121 5 hsz ⟨a, 0, none⟩ ⟨g, (i + 1) * 5, none⟩ 1 1 (N - i) (cap - (i + 1)) (fun e => hga e.symm) 124 124 5 cur.size (by simp [World.shape?, ha]) (by simp [World.shape?, hg]) (by rw [hcs]; omega) (frozen_of_row w a 0 _ _ ha) (frozen_of_row w a 5 _ _ ha)]
    rfl
  have hL0l : cur.toList.length = cap * 5 := by rw [Array.length_toList]; exact hcs
  have hL0t : cur.toList.take (i * 5) = (row pcells l).take (i * 5) := by
    rw [← htake, List.take_take, Nat.min_eq_left (by omega)]
  have hcp1 := fun ty => run_copy_X (P := Tryz.prog) w.drew 121 121 ty _ 5 g ((i + 1) * 5) (N - i) (cap - (i + 1)) ⟨g, i * 5, none⟩ (N + 1 - i) (cap - i) (N - i) cur _ ((row pcells l).drop (i * 5)) hT Tryz.sizePos hg (by simp only [Nat.min_def]; split <;> omega) hlB
      (fun j u hj => by
        rw [add_lit]
        have hjl := (List.getElem?_eq_some_iff.1 hj).1
        rw [List.getElem?_drop] at hj
        rw [hlB] at hjl
        show w.cell? _ = _
        rw [hv.cellAt (i * 5 + j) (by omega)]
        exact hj) (by rw [hcs, hlB]; omega) (fun u hu => pcs_one l u (List.mem_of_mem_drop hu))
  obtain ⟨L1, hL1⟩ : ∃ L1, (cur.toList.take ((i + 1) * 5) ++ (row pcells l).drop (i * 5) ++ cur.toList.drop ((i + 1) * 5 + ((row pcells l).drop (i * 5)).length)) = L1 := ⟨_, rfl⟩
  rw [hL1] at hcp1
  obtain ⟨w2, hw2⟩ : ∃ w2, w.drew.setRow g L1.toArray = w2 := ⟨_, rfl⟩
  have hg2 : w2.heap[g]? = some (.cells L1.toArray 124 (0, 0)) := by rw [← hw2]; exact setRow_heap w.drew _ cur _ _ _ hg
  have hK2 : Kept (fun k => some g = some k) w w2 := by rw [← hw2]; exact Kept.setRow (S := fun k => some g = some k) ((Kept.refl _ w).drew) (.inl rfl) _
  rw [hw2] at hcp1
  have hL1s : L1.length = cap * 5 := by
    rw [← hL1]
    simp only [List.length_append, List.length_take, List.length_drop, hL0l]
    omega
  have hcp2 := fun ty => run_copy_X (P := Tryz.prog) w2 121 121 ty _ 5 g (i * 5) (N + 1 - i) (cap - i) ⟨a, 0, none⟩ 1 1 1 L1.toArray _ (pcells p) hT Tryz.sizePos hg2 (by simp only [Nat.min_def]; split <;> omega) rfl
      (srcOf (hS.kept hK2 (fun j hj he => by
        have e1 : a = j := by simpa [Value.ownBlock] using hj.2
        have e2 : g = j := by simpa using he
        omega))) (by rw [List.size_toArray, hL1s]; show i * 5 + 5 ≤ _; omega) (pcells_one p)
  obtain ⟨L2, hL2⟩ : ∃ L2, (L1.toArray.toList.take (i * 5) ++ pcells p ++ L1.toArray.toList.drop (i * 5 + (pcells p).length)) = L2 := ⟨_, rfl⟩
  rw [hL2] at hcp2
  obtain ⟨w3, hw3⟩ : ∃ w3, w2.setRow g L2.toArray = w3 := ⟨_, rfl⟩
  have hg3 : w3.heap[g]? = some (.cells L2.toArray 124 (0, 0)) := by rw [← hw3]; exact setRow_heap w2 _ L1.toArray _ _ _ hg2
  have hK3 : Kept (fun k => some g = some k) w w3 := by rw [← hw3]; exact hK2.setRow (.inl rfl) _
  rw [hw3] at hcp2
  have hlist := ins_list cur.toList ((row pcells l).take (i * 5)) (pcells p) ((row pcells l).drop (i * 5)) (i * 5) 5 hL0t rfl (by rw [hL0l, hlB]; omega)
  rw [show i * 5 + 5 = (i + 1) * 5 from by omega, hL1, show (i + 1) * 5 = i * 5 + (pcells p).length from by show _ = i * 5 + 5; omega] at hlist
  rw [show L1 = L1.toArray.toList from rfl, hL2, hlB, show i * 5 + (pcells p).length + (N - i) * 5 = (N + 1) * 5 from by show i * 5 + 5 + _ = _; omega] at hlist
  have hl0 : ((row pcells l).take (i * 5)).length = i * 5 := by rw [List.length_take, hlr]; omega
  have hO3 : w3.ownsRow 0 124 5 (.slice (some ⟨g, 0, none⟩) (N + 1) cap) (N + 1) (row pcells (l.take i ++ p :: l.drop i)) := by
    have e : row pcells (l.take i ++ p :: l.drop i) = (row pcells l).take (i * 5) ++ pcells p ++ (row pcells l).drop (i * 5) := by
      rw [row_append, row_cons, row_take (pcells_len), row_drop (pcells_len), List.append_assoc]
    rw [e]
    refine ⟨by simp only [List.length_append, hl0, hlB]; show i * 5 + 5 + _ = _; omega, .inr ⟨g, cap, _, rfl, Nat.zero_le _, hg3, hroom, hcm, ?_, ?_⟩⟩
    · rw [List.size_toArray, hlist.2, hL0l]
    · rw [List.toList_toArray]
      exact hlist.1
  have HO := Lib.hid hO3
  have HK := Lib.hid hK3
  have HC1 := Lib.hid hcp1
  have HC2 := Lib.hid hcp2
  have hne : ((i : Int) == (N : Int)) = false := by simp; omega
  have hgt : ((N : Int) + 1 ≤ (cap : Int)) := by omega
  have hS1 := fun W => len_X (P := Tryz.prog) hS 121 3 _ Tryz.underlying121 W
  have hcap := fun (W : World) (ty : TypeId) => run_cap_slice (P := Tryz.prog) W 121 ty (some ⟨g, 0, none⟩) N cap (by simp [Program.elem, hT])
  rw [show ((i + 1 : Nat) : Int) = (i : Int) + 1 from rfl] at hsD
  rw [show ((N + 1 : Nat) : Int) = (N : Int) + 1 from rfl] at hs3
  have HB := Lib.hid (show Value.ownBlock (.slice (some ⟨g, 0, none⟩) (N + 1) cap) = some g from rfl)
  have hwr : IntKind.i64.wrap ((i : Int) + 1) = (i : Int) + 1 := IntWalk.i64_in _ (by omega)
  refine (walk_room _ _ _ _ _ _ i N cap w w2 w3 hi hl hne hgt hlen hcap hS1 hsI hs3 hsS hsD hov _ _ HC1 HC2 hwr).mono fun e w' => ?_
  rintro ⟨rfl, rfl⟩
  exact ⟨_, rfl, HO.out, HK.out, .inl HB.out⟩

/-- An entry laid in. -/
theorem tins_any (v : Value) (l : List Pos) (p : Pos) (a i : Nat) (w : World) (hv : w.ownsRow 0 124 5 v l.length (row pcells l)) (hi : i ≤ l.length) (hl : l.length ≤ 1048576) (hva : v.ownBlock ≠ some a)
    (ha : w.heap[a]? = some (.cells #[.int .u64 (p.key : Int), .int .i64 p.off, .int .i64 p.len, .int .u32 (p.cookie : Int), .bool p.gone] 124 (0, 0))) :
    Calls Tryz.prog 89 #[v, .int .i64 (i : Int), .slice (some ⟨a, 0, none⟩) 1 1] w fun e w' =>
      ∃ v', e = .returned v' ∧ w'.ownsRow 0 124 5 v' (l.length + 1) (row pcells (l.take i ++ p :: l.drop i)) ∧ Kept (fun k => v.ownBlock = some k) w w' ∧ (v'.ownBlock = v.ownBlock ∨ v'.ownBlock = some w.heap.size) := by
  by_cases h : i = l.length
  · subst h
    have := tins_end v l p a w hv hl ha
    rw [List.take_length, List.drop_length]
    exact this
  · rcases hv.2 with ⟨rfl, h0⟩ | ⟨g, cap, cur, rfl, _, hg, hnc, hcm, _⟩
    · omega
    · have hga : g ≠ a := fun e => hva (by rw [← e]; rfl)
      by_cases hr : l.length + 1 ≤ cap
      · exact tins_room l p a g i l.length cap w hv rfl (by omega) hl hr hcm hga ha
      · exact tins_grow l p a g i l.length cap w hv rfl (by omega) hl (by omega) hcm hga ha

end Go.Proofs.YtllbngopfganjaaGreatDoor.Q
end

section
namespace Go.Proofs.YtllbngopfganjaaGreatDoor.Q
open Go.RowKit Go.Cor

/-- An index lies in a box, its positions in a row of its own. -/
structure At (w : World) (g : Nat) (v : Value) (l : List Pos) : Prop where
  blk : Blk w g #[v] 142
  row : w.ownsRow 0 124 5 v l.length (row pcells l)
  apart : v.ownBlock ≠ some g
  asc : Asc l
/-- The blocks that it lies in. -/
def own (g : Nat) (v : Value) : Nat → Prop := fun k => k = g ∨ v.ownBlock = some k
theorem At.kept {S : Nat → Prop} {w w' : World} {g : Nat} {v : Value} {l : List Pos} (h : At w g v l) (hk : Kept S w w') (hs : ∀ k, own g v k → ¬ S k) : At w' g v l :=
  ⟨h.blk.kept hk (hs g (.inl rfl)), ownsRow_kept h.row hk (fun k e => hs k (.inr e)), h.apart, h.asc⟩
theorem At.below {w w' : World} {g B : Nat} {v : Value} {l : List Pos} (h : At w g v l) (hb : Below B w w') (hB : w.heap.size ≤ B) : At w' g v l :=
  h.kept (S := fun _ => False) (Kept.of_below hb hB) (fun _ _ h => h)
theorem At.lt {w : World} {g : Nat} {v : Value} {l : List Pos} (h : At w g v l) : ∀ k, own g v k → k < w.heap.size := by
  rintro k (rfl | e)
  · exact h.blk.lt
  · exact (h.row.lt k e).2
theorem At.isP {w : World} {g : Nat} {v : Value} {l : List Pos} (h : At w g v l) : IsP w v l := IsX.own h.row
theorem At.drew {w : World} {g : Nat} {v : Value} {l : List Pos} (h : At w g v l) : At w.drew g v l := h.kept (S := fun _ => False) (Kept.refl _ w).drew (fun _ _ h => h)

/-- slices.Clone of positions. -/
theorem clone_any (v : Value) (l : List Pos) (w : World) (hv : IsP w v l) (hl : l.length ≤ 1048576) :
    Calls Tryz.prog 143 #[v] w fun e w' =>
      ∃ v', e = .returned v' ∧ w'.ownsRow w.heap.size 124 5 v' l.length (row pcells l) ∧ Below w.heap.size w w' := by
  obtain ⟨i0, hi, hz0, hz1, hz2⟩ := info_parts Tryz.infoPos
  have q22 : ∀ (w : World) (a : Option Addr) (n c n' c' : Nat), (binOp .eql 121 (.slice a n c) (.slice none n' c')).run Tryz.prog w = .ok (.bool a.isNone) w := fun w a n c n' c' => Lib.run_eql_slice_nil w _ _ a n c n' c' Tryz.underlying121
  have HV := Lib.hid hv
  obtain ⟨x, cap, rfl, hlc, hcm, hll, hnc, hcell⟩ := hv
  clear hcell hll
  cases x with
  | none =>
    obtain rfl := hnc rfl
    obtain rfl : l = [] := List.eq_nil_of_length_eq_zero (by omega)
    go_enter Tryz.func143, Tryz.ntmps143
    go_wp2
    go_ret
    exact ⟨_, rfl, World.ownsRow_nil _ _ _ _, Below.refl _ _⟩
  | some a =>
    clear hnc
    go_enter Tryz.func143, Tryz.ntmps143
    go_wp2_with (at_builtin; refine wpList_append_X (by rfl) _ _ 121 121 rfl (fun _ _ _ => rfl) w.heap.size 124 i0 _ 5 32 Tryz.underlying121 hi hz0 hz1 hz2 rfl (by decide) _ [] 0 rfl (World.ownsRow_lit _ #[] 0 (Nat.le_refl _) (Nat.zero_le _) rfl) _ l.length _ rfl (HV.out.mono ((Below.refl _ _).alloc (Nat.le_refl _) _) (Nat.le_refl _)) (pcs_one l) (by unfold maxLen; omega) (by omega) (by simp) ?_; intro v4 w4 hown4 hb4 hl4)
    go_ret
    refine ⟨_, rfl, by simpa using hown4, ((Below.refl _ _).alloc (Nat.le_refl _) _).grown hb4 (by simp) (fun k hk => ?_)⟩
    have : some w.heap.size = some k := hk
    cases this
    exact Nat.le_refl _

theorem positions_nil (w : World) :
    Calls Tryz.prog 48 #[.pointer none] w fun e w' => e = .returned (.slice none 0 0) ∧ w = w' := by
  go_enter Tryz.func48, Tryz.ntmps48
  go_wp2
  go_ret
  exact ⟨rfl, rfl⟩
theorem positions_any (g : Nat) (v : Value) (w : World) (h : w.cell? ⟨g, 0, none⟩ = some v) :
    Calls Tryz.prog 48 #[.pointer (some ⟨g, 0, none⟩)] w fun e w' => e = .returned v ∧ w = w' := by
  go_enter Tryz.func48, Tryz.ntmps48
  go_wp2
  go_ret
  exact ⟨rfl, rfl⟩

/-- x is an index of these positions, or none, if there are none. -/
inductive Ix (w : World) : Value → Value → List Pos → Prop
  | nil : Ix w (.pointer none) (.slice none 0 0) []
  | at (g : Nat) (v : Value) (l : List Pos) (h : At w g v l) : Ix w (.pointer (some ⟨g, 0, none⟩)) v l
theorem Ix.isP {w : World} {x v : Value} {l : List Pos} (h : Ix w x v l) : IsP w v l := by
  cases h with
  | nil => exact IsP.nil w
  | «at» g v l h => exact h.isP
theorem Ix.asc {w : World} {x v : Value} {l : List Pos} (h : Ix w x v l) : Asc l := by
  cases h with
  | nil => exact Asc.nil
  | «at» g v l h => exact h.asc
theorem Ix.below {w w' : World} {x v : Value} {l : List Pos} {B : Nat} (h : Ix w x v l) (hb : Below B w w') (hB : w.heap.size ≤ B) : Ix w' x v l := by
  cases h with
  | nil => exact .nil
  | «at» g v l h => exact .at g v l (h.below hb hB)
theorem Ix.alloc {w : World} {x v : Value} {l : List Pos} (h : Ix w x v l) (o : Obj) : Ix (w.alloc o) x v l := h.below ((Below.refl _ _).alloc (Nat.le_refl _) o) (Nat.le_refl _)
theorem blk5_facts {w : World} {g : Nat} {a0 a1 a2 a3 a4 : Value} {T : TypeId} (h : Blk w g #[a0, a1, a2, a3, a4] T) :
    w.cell? ⟨g, 0, none⟩ = some a0 ∧ w.cell? ⟨g, 1, none⟩ = some a1 ∧ w.cell? ⟨g, 2, none⟩ = some a2 ∧ w.cell? ⟨g, 3, none⟩ = some a3 ∧ w.cell? ⟨g, 4, none⟩ = some a4 ∧ (∀ j, w.frozen? ⟨g, j, none⟩ = false) :=
  ⟨h.cell 0 rfl, h.cell 1 rfl, h.cell 2 rfl, h.cell 3 rfl, h.cell 4 rfl, h.free⟩
def set5 (w : World) (g : Nat) (u0 u1 u2 u3 u4 : Value) : World := ((((w.setCell ⟨g, 0, none⟩ u0).setCell ⟨g, 1, none⟩ u1).setCell ⟨g, 2, none⟩ u2).setCell ⟨g, 3, none⟩ u3).setCell ⟨g, 4, none⟩ u4
theorem blk_set5 {w : World} {g : Nat} {a0 a1 a2 a3 a4 : Value} {T : TypeId} (h : Blk w g #[a0, a1, a2, a3, a4] T) (u0 u1 u2 u3 u4 : Value) : Blk (set5 w g u0 u1 u2 u3 u4) g #[u0, u1, u2, u3, u4] T := by
  have := ((((h.set 0 u0).set 1 u1).set 2 u2).set 3 u3).set 4 u4
  simp at this
  exact this
theorem below_set5 {w0 w : World} {B g : Nat} {u0 u1 u2 u3 u4 : Value} (hb : Below B w0 w) (hB : B ≤ g) : Below B w0 (set5 w g u0 u1 u2 u3 u4) :=
  ((((hb.setCell hB _).setCell hB _).setCell hB _).setCell hB _).setCell hB _
theorem positions_ix (x v : Value) (l : List Pos) (w : World) (h : Ix w x v l) :
    Calls Tryz.prog 48 #[x] w fun e w' => e = .returned v ∧ w = w' := by
  cases h with
  | nil => exact positions_nil w
  | «at» g v l h => exact positions_any g v w (h.blk.cell 0 rfl)

/-- No error, or why. -/
def foundE (o : Option Pos) : Value := if o.isSome then .nilIface else .iface 59 (.int .i64 6)

set_option maxHeartbeats 1000000 in
theorem find_any (x v : Value) (l : List Pos) (k : Nat) (w : World) (h : Ix w x v l) (hl : l.length ≤ 1048576) :
    Calls Tryz.prog 117 #[x, .int .u64 (k : Int)] w fun e w' =>
      e = .returned (.tuple #[pval ((fnd l k).getD pzero), foundE (fnd l k)]) ∧ Below w.heap.size w w' := by
  have H := Lib.hid h
  clear h
  obtain ⟨r, hr⟩ : ∃ r, fnd l k = r := ⟨_, rfl⟩
  rw [hr]
  have HR := Lib.hid hr
  clear hr
  go_enter Tryz.func117, Tryz.ntmps117
  go_wp2_with fail
  refine (positions_ix x v l _ (H.out.alloc _)).mono ?_
  rintro e w1 ⟨rfl, rfl⟩
  go_wp2_with fail
  refine (place_any v l k _ (H.out.alloc _).isP H.out.asc hl).mono ?_
  rintro e w2 ⟨rfl, hb2⟩
  rw [HR.out]
  have HK := Lib.hid ((Blk.new w #[.int .u64 0, .int .i64 0, .int .i64 0, .int .u32 0, .bool false] 124).below hb2 (by simp))
  obtain ⟨k0, k1, k2, k3, k4, kf⟩ := blk5_facts HK.out
  have hb3 := Lib.hid (((Below.refl w.heap.size w).alloc (Nat.le_refl _) _).trans (hb2.mono (by simp)))
  have hlt : w.heap.size < w2.heap.size := by have := hb2.size; simp at this; omega
  have HP2 := Lib.hid (((H.out.alloc _).below hb2 (Nat.le_refl _)).isP)
  clear hb2
  cases r with
  | none =>
    go_wp2
    have hZ := blk_set5 HK.out (.int .u64 0) (.int .i64 0) (.int .i64 0) (.int .u32 0) (.bool false)
    have hB3 := below_set5 (u0 := (.int .u64 0)) (u1 := (.int .i64 0)) (u2 := (.int .i64 0)) (u3 := (.int .u32 0)) (u4 := (.bool false)) hb3.out (Nat.le_refl w.heap.size)
    obtain ⟨w3, hw3⟩ : ∃ w3, set5 w2 w.heap.size (.int .u64 0) (.int .i64 0) (.int .i64 0) (.int .u32 0) (.bool false) = w3 := ⟨_, rfl⟩
    rw [hw3] at hZ hB3
    unfold set5 at hw3
    rw [hw3]
    obtain ⟨z0, z1, z2, z3, z4, _⟩ := blk5_facts hZ
    exact bodyPost_ret (v := .tuple #[pval pzero, .iface 59 (.int .i64 6)]) (by simp [results, Tryz.results117, go_sem, z0, z1, z2, z3, z4, pzero]) rfl ⟨rfl, hB3⟩
  | some p =>
    have hp := (fnd_at HR.out).1
    have hi := (List.getElem?_eq_some_iff.1 hp).1
    obtain ⟨b, o, hidx, c0, c1, c2, c3, c4⟩ := indexAt_P HP2.out 121 124 Tryz.underlying121 Tryz.sizePos (psn l k) hi
    rw [pat_of hp] at c0 c1 c2 c3 c4
    clear hp hi
    go_wp2
    have hZ := blk_set5 HK.out (.int .u64 (p.key : Int)) (.int .i64 p.off) (.int .i64 p.len) (.int .u32 (p.cookie : Int)) (.bool p.gone)
    have hB3 := below_set5 (u0 := (.int .u64 (p.key : Int))) (u1 := (.int .i64 p.off)) (u2 := (.int .i64 p.len)) (u3 := (.int .u32 (p.cookie : Int))) (u4 := (.bool p.gone)) hb3.out (Nat.le_refl w.heap.size)
    obtain ⟨w3, hw3⟩ : ∃ w3, set5 w2 w.heap.size (.int .u64 (p.key : Int)) (.int .i64 p.off) (.int .i64 p.len) (.int .u32 (p.cookie : Int)) (.bool p.gone) = w3 := ⟨_, rfl⟩
    rw [hw3] at hZ hB3
    unfold set5 at hw3
    rw [hw3]
    obtain ⟨z0, z1, z2, z3, z4, _⟩ := blk5_facts hZ
    exact bodyPost_ret (v := .tuple #[pval p, .nilIface]) (by simp [results, Tryz.results117, go_sem, z0, z1, z2, z3, z4]) rfl ⟨rfl, hB3⟩

/-- The first positions from a key on. -/
def fromL (l : List Pos) (k : Nat) (most : Int) : List Pos := (l.drop (psn l k)).take most.toNat

set_option maxHeartbeats 1000000 in
theorem from_at (x v : Value) (l : List Pos) (k m : Nat) (most : Int) (w : World) (h : Ix w x v l) (hl : l.length ≤ 1048576) (hm : m ≤ l.length - psn l k)
    (hmm : most < 0 ∧ m = 0 ∨ most = (m : Int) ∨ (((l.length - psn l k : Nat) : Int) < most ∧ m = l.length - psn l k)) :
    Calls Tryz.prog 127 #[x, .int .u64 (k : Int), .int .i64 most] w fun e w' =>
      ∃ v', e = .returned v' ∧ w'.ownsRow w.heap.size 124 5 v' ((l.drop (psn l k)).take m).length (row pcells ((l.drop (psn l k)).take m)) ∧ Below w.heap.size w w' := by
  have H := Lib.hid h
  obtain ⟨N, hN⟩ : ∃ N, l.length = N := ⟨_, rfl⟩
  obtain ⟨q, hq⟩ : ∃ q, psn l k = q := ⟨_, rfl⟩
  have hqN := psn_le l k
  have hX : IsX w 5 v l.length (row pcells l) := h.isP
  rw [hN] at hqN hX
  rw [hN, hq] at hm hmm
  rw [hq] at hqN ⊢
  obtain ⟨a, cap, rfl, hlc, hcm⟩ := hX.slice
  have hsI := slice_l_X (P := Tryz.prog) hX 121 _ Tryz.underlying121 Tryz.sizePos q hqN
  have hX1 := hX.piece (lo := q) (hi := N) hqN (Nat.le_refl _)
  obtain ⟨V1, hV1⟩ : ∃ V1, sliced a q N cap 5 = V1 := ⟨_, rfl⟩
  rw [hV1] at hsI hX1
  obtain ⟨R, hR⟩ : ∃ R, N - q = R := ⟨_, rfl⟩
  have hrow : ((row pcells l).drop (q * 5)).take (R * 5) = row pcells (l.drop q) := by
    rw [row_drop pcells_len]
    exact List.take_of_length_le (by rw [length_row pcells_len, List.length_drop, hN, hR]; omega)
  rw [hR] at hX1 hm hmm
  rw [hrow] at hX1
  obtain ⟨a1, c1, rfl, hlc1, hcm1⟩ := hX1.slice
  have hlen := fun W => len_X (P := Tryz.prog) hX1 121 3 _ Tryz.underlying121 W
  have hXm := hX1.take hm
  rw [row_take pcells_len] at hXm
  have hml : ((l.drop q).take m).length = m := by rw [List.length_take, List.length_drop, hN, hR]; omega
  have HP := Lib.hid (show IsP w (.slice a1 m c1) ((l.drop q).take m) from by unfold IsP; rw [hml]; exact hXm)
  have HQ := Lib.hid hq
  have hml2 : ((l.drop q).take m).length ≤ 1048576 := by rw [hml]; omega
  have hRm : R ≤ 1048576 := by omega
  clear h hX hlc hcm hV1 hX1 hrow hN hq hR hXm hml
  generalize (l.drop q).take m = lm at *
  have tail : ∀ (w2 : World), Below w.heap.size w w2 → Calls Tryz.prog 143 #[.slice a1 m c1] w2 fun e w' => ∃ v', e = .returned v' ∧ w'.ownsRow w.heap.size 124 5 v' lm.length (row pcells lm) ∧ Below w.heap.size w w' := fun w2 hb =>
    (clone_any _ lm w2 (HP.out.mono hb (Nat.le_refl _)) hml2).mono fun e w' ⟨v', h1, h2, h3⟩ => ⟨v', h1, ownsRow_base h2 hb.size, hb.trans (h3.mono hb.size)⟩
  have TL := Lib.hid tail
  clear tail
  rcases hmm with ⟨hmm, rfl⟩ | rfl | ⟨hmm, rfl⟩
  all_goals
    go_enter Tryz.func127, Tryz.ntmps127
    go_wp2_with fail
    refine (positions_ix x _ l _ H.out).mono ?_
    rintro e w1 ⟨rfl, rfl⟩
    go_wp2_with fail
    refine (place_any _ l k _ H.out.isP H.out.asc hl).mono ?_
    rintro e w2 ⟨rfl, hb2⟩
    rw [HQ.out]
    have HB2 := Lib.hid hb2
    clear hb2
    go_wp2_with fail
    refine (TL.out _ HB2.out).mono ?_
    rintro e w3 ⟨v', rfl, h1, h2⟩
    have H1 := Lib.hid h1
    have H2 := Lib.hid h2
    clear h1 h2
    go_wp2
    go_ret
    exact ⟨_, rfl, H1.out, H2.out⟩

theorem from_any (x v : Value) (l : List Pos) (k : Nat) (most : Int) (w : World) (h : Ix w x v l) (hl : l.length ≤ 1048576) :
    Calls Tryz.prog 127 #[x, .int .u64 (k : Int), .int .i64 most] w fun e w' =>
      ∃ v', e = .returned v' ∧ w'.ownsRow w.heap.size 124 5 v' (fromL l k most).length (row pcells (fromL l k most)) ∧ Below w.heap.size w w' := by
  by_cases h1 : most < 0
  · have := from_at x v l k 0 most w h hl (Nat.zero_le _) (.inl ⟨h1, rfl⟩)
    rw [show fromL l k most = (l.drop (psn l k)).take 0 from by unfold fromL; rw [Int.toNat_of_nonpos (by omega)]]
    exact this
  · by_cases h2 : ((l.length - psn l k : Nat) : Int) < most
    · have := from_at x v l k (l.length - psn l k) most w h hl (Nat.le_refl _) (.inr (.inr ⟨h2, rfl⟩))
      rw [show fromL l k most = (l.drop (psn l k)).take (l.length - psn l k) from by
        unfold fromL
        rw [List.take_of_length_le (by rw [List.length_drop]; omega), List.take_of_length_le (by rw [List.length_drop]; omega)]]
      exact this
    · exact from_at x v l k most.toNat most w h hl (by omega) (.inr (.inl (by omega)))

/-- How many are gone. -/
def goneN (l : List Pos) : Nat := l.countP (fun p => p.gone)
theorem goneN_le (l : List Pos) : goneN l ≤ l.length := List.countP_le_length
theorem goneN_snoc {l : List Pos} {i : Nat} (h : i < l.length) : goneN (l.take (i + 1)) = goneN (l.take i) + (if (pat l i).gone then 1 else 0) := by
  rw [take_snoc h]
  unfold goneN
  rw [List.countP_append, List.countP_singleton]

set_option maxHeartbeats 1000000 in
theorem len_any (x v : Value) (l : List Pos) (w : World) (h : Ix w x v l) (hl : l.length ≤ 1048576) :
    Calls Tryz.prog 28 #[x] w fun e w' =>
      e = .returned (.tuple #[.int .i64 ((l.length : Int) - (goneN l : Int)), .int .i64 (goneN l : Int)]) ∧ Below w.heap.size w w' := by
  have H := Lib.hid h
  obtain ⟨N, hN⟩ : ∃ N, l.length = N := ⟨_, rfl⟩
  have hlen := fun W => len_P (P := Tryz.prog) h.isP hN 121 3 _ Tryz.underlying121 W
  rw [hN] at hl ⊢
  have HN := Lib.hid hN
  clear h hN
  go_enter Tryz.func28, Tryz.ntmps28
  go_wp2_with fail
  refine (positions_ix x _ l _ H.out).mono ?_
  rintro e w1 ⟨rfl, rfl⟩
  go_wp2_with fail
  go_loopw [2, 3, 9] (fun a b c wr => ∃ i n : Nat, i ≤ N ∧ n ≤ i ∧ c = .int .i64 i ∧ a = .int .i64 ((i : Int) - (n : Int)) ∧ b = .int .i64 (n : Int) ∧ Hid (goneN (l.take i) = n) ∧ Hid (Below w.heap.size w wr)) (fun _ _ c _ => N - (intOf c).toNat)
  case atStart => exact ⟨0, 0, Nat.zero_le _, Nat.le_refl _, rfl, rfl, rfl, Lib.hid rfl, Lib.hid (Below.refl _ _)⟩
  case round =>
    obtain ⟨i, n, hiN, hni, rfl, rfl, rfl, hG, hB⟩ := hrel
    by_cases hlt : i < N
    · obtain ⟨p, hp⟩ : ∃ p, pat l i = p := ⟨_, rfl⟩
      obtain ⟨b, o, hidx, c0, c1, c2, c3, c4⟩ := indexAt_P (H.out.isP.mono hB.out (Nat.le_refl _)) 121 124 Tryz.underlying121 Tryz.sizePos i (by rw [HN.out]; omega)
      have hsn := goneN_snoc (l := l) (i := i) (by rw [HN.out]; omega)
      rw [hG.out, hp] at hsn
      rw [hp] at c0 c1 c2 c3 c4
      have hB1 := hB.out.size
      obtain ⟨key, off, len, cookie, gone⟩ := p
      cases gone with
      | true =>
        have HS := Lib.hid (show goneN (l.take (i + 1)) = n + 1 from hsn)
        clear hsn hp
        go_wp2
        go_roundw
        case rel => exact ⟨i + 1, n + 1, by omega, by omega, by go_num, by congr 1; omega, by go_num, HS, Lib.hid (by first | exact hB.out.alloc hB1 _ | skip)⟩
        case measure => simp [intOf]; omega
      | false =>
        have HS := Lib.hid (show goneN (l.take (i + 1)) = n from hsn)
        clear hsn hp
        go_wp2
        go_roundw
        case rel => exact ⟨i + 1, n, by omega, by omega, by go_num, by congr 1; omega, by go_num, HS, Lib.hid (by first | exact hB.out.alloc hB1 _ | skip)⟩
        case measure => simp [intOf]; omega
    · obtain rfl : i = N := by omega
      have hG2 := hG.out
      rw [List.take_of_length_le (by rw [HN.out]; omega)] at hG2
      have HG2 := Lib.hid hG2
      clear hG2
      go_wp2
      go_ret2
      exact ⟨by rw [HG2.out]; rfl, hB.out⟩

end Go.Proofs.YtllbngopfganjaaGreatDoor.Q
end

section
namespace Go.Proofs.YtllbngopfganjaaGreatDoor.Q
open Go.RowKit Go.Cor

set_option maxHeartbeats 1000000 in
/-- Five cells at an address set. -/
def set5o (w : World) (g o : Nat) (p : Pos) : World := ((((w.setCell ⟨g, o, none⟩ (.int .u64 (p.key : Int))).setCell ⟨g, o + 1, none⟩ (.int .i64 p.off)).setCell ⟨g, o + 2, none⟩ (.int .i64 p.len)).setCell ⟨g, o + 3, none⟩ (.int .u32 (p.cookie : Int))).setCell ⟨g, o + 4, none⟩ (.bool p.gone)
theorem row_set5 {l : List Pos} {i : Nat} (h : i < l.length) (p : Pos) :
    (((((row pcells l).set (i * 5) (.int .u64 (p.key : Int))).set (i * 5 + 1) (.int .i64 p.off)).set (i * 5 + 2) (.int .i64 p.len)).set (i * 5 + 3) (.int .u32 (p.cookie : Int))).set (i * 5 + 4) (.bool p.gone) = row pcells (l.set i p) := by
  induction l generalizing i with
  | nil => simp at h
  | cons q r ih =>
    cases i with
    | zero => rfl
    | succ i =>
      have e := ih (i := i) (by simpa using h)
      rw [List.set_cons_succ, row_cons, row_cons, ← e, show (i + 1) * 5 = i * 5 + 1 + 1 + 1 + 1 + 1 from by omega]
      rfl
theorem Kept.set5o {S : Nat → Prop} {a w : World} {g o : Nat} {p : Pos} (h : Kept S a w) (hg : S g ∨ a.heap.size ≤ g) : Kept S a (set5o w g o p) :=
  ((((h.setCell hg _).setCell hg _).setCell hg _).setCell hg _).setCell hg _
theorem At.set {w : World} {g gv i : Nat} {v : Value} {l : List Pos} {p : Pos} (h : At w g v l) (hi : i < l.length) (hgv : v.ownBlock = some gv) (hp : Asc (l.set i p)) : At (set5o w gv (i * 5) p) g v (l.set i p) := by
  have hne : gv ≠ g := fun e => h.apart (e ▸ hgv)
  refine ⟨((((h.blk.other (by exact hne) _).other (by exact hne) _).other (by exact hne) _).other (by exact hne) _).other (by exact hne) _, ?_, h.apart, hp⟩
  obtain ⟨x, c, rfl, _⟩ := ownsRow_slice h.row
  have hx : ∃ ad, x = some ad := by
    cases x with
    | none => simp [Value.ownBlock] at hgv
    | some ad => exact ⟨ad, rfl⟩
  obtain ⟨ad, rfl⟩ := hx
  have st : ∀ {W : World} {xs : List Value} (j : Nat) (u : Value), W.ownsRow 0 124 5 (.slice (some ad) l.length c) l.length xs → (W.setCell ⟨gv, j, none⟩ u).ownsRow 0 124 5 (.slice (some ad) l.length c) l.length (xs.set j u) := by
    intro W xs j u hW
    obtain ⟨g', hg', _, _, _, hs⟩ := indexAt_own (P := Tryz.prog) hW 121 124 Tryz.underlying121 Tryz.sizePos i hi
    have : g' = gv := by
      rw [hgv] at hg'
      exact (Option.some.inj hg').symm
    subst this
    exact hs j u
  rw [List.length_set, ← row_set5 hi p]
  exact st _ _ (st _ _ (st _ _ (st _ _ (st _ _ h.row))))

set_option maxRecDepth 100000 in
theorem put_any (g : Nat) (v : Value) (l : List Pos) (p : Pos) (w : World) (h : At w g v l) (hl : l.length < 4096) :
    Calls Tryz.prog 65 #[.pointer (some ⟨g, 0, none⟩), pval p] w fun e w' =>
      e = .returned .nilIface ∧ ∃ v', At w' g v' (put l p) ∧ Kept (own g v) w w' ∧ ∀ k, own g v' k → own g v k ∨ w.heap.size ≤ k := by
  have H := Lib.hid h
  have hgw := h.blk.lt
  have HA := Lib.hid (h.below ((Below.refl w.heap.size w).alloc (Nat.le_refl _) (.cells #[.int .u64 (p.key : Int), .int .i64 p.off, .int .i64 p.len, .int .u32 (p.cookie : Int), .bool p.gone] 124)) (Nat.le_refl _))
  have HF := Lib.hid (Blk.new w #[.int .u64 (p.key : Int), .int .i64 p.off, .int .i64 p.len, .int .u32 (p.cookie : Int), .bool p.gone] 124)
  have hb1 : Below w.heap.size w (w.alloc (.cells #[.int .u64 (p.key : Int), .int .i64 p.off, .int .i64 p.len, .int .u32 (p.cookie : Int), .bool p.gone] 124)) := (Below.refl w.heap.size w).alloc (Nat.le_refl _) _
  obtain ⟨w1, hw1⟩ : ∃ w1, w.alloc (.cells #[.int .u64 (p.key : Int), .int .i64 p.off, .int .i64 p.len, .int .u32 (p.cookie : Int), .bool p.gone] 124) = w1 := ⟨_, rfl⟩
  have hs1 : w1.heap.size = w.heap.size + 1 := by rw [← hw1]; simp
  rw [hw1] at HA HF hb1
  have k0 : w1.cell? ⟨g, 0, none⟩ = some v := HA.out.blk.cell 0 rfl
  obtain ⟨q0, _⟩ := blk5_facts HF.out
  have HB1 := Lib.hid hb1
  clear h hb1
  go_enter Tryz.func65, Tryz.ntmps65
  go_upto_region 3 with fail
  clear hw1
  have S0 : w1.drew.cell? ⟨g, 0, none⟩ = some v ∧ w1.drew.cell? ⟨w.heap.size, 0, none⟩ = some (.int .u64 (p.key : Int)) := ⟨k0, q0⟩
  have S2 : ∀ wx, Below w1.drew.heap.size w1.drew wx → wx.cell? ⟨g, 0, none⟩ = some v ∧ wx.cell? ⟨w.heap.size, 0, none⟩ = some (.int .u64 (p.key : Int)) := fun wx hb =>
    ⟨(hb.cell (cell_lt S0.1)).trans S0.1, (hb.cell (cell_lt S0.2)).trans S0.2⟩
  obtain ⟨r, hr⟩ : ∃ r, (fnd l p.key).isSome = r := ⟨_, rfl⟩
  have hpl := place_any v l p.key w1.drew HA.out.drew.isP HA.out.asc (by omega)
  rw [hr] at hpl
  have HPL := Lib.hid hpl
  have HR := Lib.hid hr
  clear hpl hr
  go_region_held3 (fun wx => wx.cell? ⟨g, 0, none⟩ = some v ∧ wx.cell? ⟨w.heap.size, 0, none⟩ = some (.int .u64 (p.key : Int))) (first | exact S0 | exact S2 _ (by assumption)) (first | (go_at_call 88; refine HPL.out.mono ?_; rintro e w2 ⟨rfl, hb2⟩))
  clear S0 S2 HPL
  have HA2 := Lib.hid (HA.out.drew.below hb2 (Nat.le_refl _))
  have HF2 := Lib.hid (HF.out.drew.below hb2 (by have := HF.out.lt; exact this))
  have HB2 := Lib.hid (HB1.out.drew.trans (hb2.mono (by show w.heap.size ≤ w1.heap.size; omega)))
  have hs2 : w.heap.size < w2.heap.size := by have := hb2.size; have h9 : w1.drew.heap.size = w1.heap.size := rfl; omega
  clear hb2 k0 q0 hs1
  have k0 : w2.cell? ⟨g, 0, none⟩ = some v := HA2.out.blk.cell 0 rfl
  obtain ⟨q0, q1, q2, q3, q4, _⟩ := blk5_facts HF2.out
  obtain ⟨i, hi⟩ : ∃ i, psn l p.key = i := ⟨_, rfl⟩
  have hil := psn_le l p.key
  rw [hi] at hil ⊢
  have HI := Lib.hid hi
  clear hi
  cases r with
  | true =>
    obtain ⟨p0, hp0⟩ := Option.isSome_iff_exists.1 HR.out
    have hlt : i < l.length := by
      have := (List.getElem?_eq_some_iff.1 (fnd_at hp0).1).1
      rw [HI.out] at this
      exact this
    have HP := Lib.hid (show put l p = l.set i p from by rw [put_there hp0, HI.out])
    clear hp0
    obtain ⟨gv, hgv, hidx, hc, hf, hst⟩ := indexAt_own (P := Tryz.prog) HA2.out.row 121 124 Tryz.underlying121 Tryz.sizePos i hlt
    have hne : gv ≠ g := fun e => HA2.out.apart (e ▸ hgv)
    obtain ⟨c0, c1, c2, c3, c4⟩ := pcells_at hlt hc
    have HV := Lib.hid hgv
    have HIX := Lib.hid hidx
    clear hc hst hgv
    go_upto_region 5 with fail
    go_still_tail 7, (by kernel_rfl)
    change wpList _ _ _ _ _ w2.drew
    go_wp2
    go_ret
    have hasc : Asc (l.set i p) := by rw [← HP.out]; exact put_asc HA2.out.asc p
    refine ⟨rfl, v, ?_, ?_, fun k hk => .inl hk⟩
    · rw [HP.out]
      exact (HA2.out.set hlt HV.out hasc).drew
    · exact (Kept.set5o (Kept.of_below HB2.out (Nat.le_refl _)) (.inl (.inr HV.out))).drew
  | false =>
    have hno : fnd l p.key = none := Option.not_isSome_iff_eq_none.1 (by rw [HR.out]; decide)
    have HP := Lib.hid (show put l p = l.take i ++ p :: l.drop i from by rw [put_new hno, HI.out])
    have HL := Lib.hid (length_put_new hno)
    have hlen := fun W => len_X (P := Tryz.prog) HA2.out.isP 121 3 _ Tryz.underlying121 W
    have hl' : ¬ ((4096 : Int) ≤ (l.length : Int)) := by omega
    clear hno
    obtain ⟨w3, hw3⟩ : ∃ w3, w2.drew.alloc (.cells #[.int .u64 (p.key : Int), .int .i64 p.off, .int .i64 p.len, .int .u32 (p.cookie : Int), .bool p.gone] 124) = w3 := ⟨_, rfl⟩
    have HA3 := Lib.hid (show At w3 g v l from by rw [← hw3]; exact HA2.out.drew.below ((Below.refl _ _).alloc (Nat.le_refl _) _) (Nat.le_refl _))
    have HF3 := Lib.hid (show w3.heap[w2.heap.size]? = some (.cells #[.int .u64 (p.key : Int), .int .i64 p.off, .int .i64 p.len, .int .u32 (p.cookie : Int), .bool p.gone] 124 (0, 0)) from by rw [← hw3]; exact Blk.new w2.drew _ _)
    have HB3 := Lib.hid (show Below w.heap.size w w3 from by rw [← hw3]; exact HB2.out.drew.alloc (by show w.heap.size ≤ w2.heap.size; omega) _)
    have hs3 : w3.heap.size = w2.heap.size + 1 := by rw [← hw3]; simp
    have k3 : w3.cell? ⟨g, 0, none⟩ = some v := HA3.out.blk.cell 0 rfl
    have hav : v.ownBlock ≠ some w2.heap.size := fun e => by have := HA2.out.lt _ (.inr e); omega
    have HIN := Lib.hid (tins_any v l p w2.heap.size i w3 HA3.out.row hil (by omega) hav HF3.out)
    have S0 : w2.drew.cell? ⟨g, 0, none⟩ = some v ∧ w2.drew.cell? ⟨w.heap.size, 0, none⟩ = some (.int .u64 (p.key : Int)) ∧ w2.drew.cell? ⟨w.heap.size, 1, none⟩ = some (.int .i64 p.off) ∧ w2.drew.cell? ⟨w.heap.size, 2, none⟩ = some (.int .i64 p.len) ∧ w2.drew.cell? ⟨w.heap.size, 3, none⟩ = some (.int .u32 (p.cookie : Int)) ∧ w2.drew.cell? ⟨w.heap.size, 4, none⟩ = some (.bool p.gone) := ⟨k0, q0, q1, q2, q3, q4⟩
    have S1 : w3.cell? ⟨g, 0, none⟩ = some v ∧ w3.cell? ⟨w.heap.size, 0, none⟩ = some (.int .u64 (p.key : Int)) ∧ w3.cell? ⟨w.heap.size, 1, none⟩ = some (.int .i64 p.off) ∧ w3.cell? ⟨w.heap.size, 2, none⟩ = some (.int .i64 p.len) ∧ w3.cell? ⟨w.heap.size, 3, none⟩ = some (.int .u32 (p.cookie : Int)) ∧ w3.cell? ⟨w.heap.size, 4, none⟩ = some (.bool p.gone) := by
      have cl : ∀ (q : Addr) (u : Value), q.block < w2.heap.size → w2.cell? q = some u → w3.cell? q = some u := fun q u hq h => by rw [← hw3]; exact (Below.cell (B := w2.heap.size) ((Below.refl _ w2.drew).alloc (Nat.le_refl _) _) hq).trans h
      exact ⟨k3, cl _ _ hs2 q0, cl _ _ hs2 q1, cl _ _ hs2 q2, cl _ _ hs2 q3, cl _ _ hs2 q4⟩
    go_upto_region 9 with fail
    have F : ∀ wx, Kept (fun k => v.ownBlock = some k) w3 wx → wx.cell? ⟨g, 0, none⟩ = some v ∧ wx.cell? ⟨w.heap.size, 0, none⟩ = some (.int .u64 (p.key : Int)) ∧ wx.cell? ⟨w.heap.size, 1, none⟩ = some (.int .i64 p.off) ∧ wx.cell? ⟨w.heap.size, 2, none⟩ = some (.int .i64 p.len) ∧ wx.cell? ⟨w.heap.size, 3, none⟩ = some (.int .u32 (p.cookie : Int)) ∧ wx.cell? ⟨w.heap.size, 4, none⟩ = some (.bool p.gone) := fun wx hk =>
      have cl : ∀ (q : Addr) (u : Value), (q.block = g ∨ q.block = w.heap.size) → w3.cell? q = some u → wx.cell? q = some u := fun q u hq h => hk.cell h (fun e => by
        rcases hq with hq | hq
        · exact HA3.out.apart (hq ▸ e)
        · have h9 := H.out.lt _ (.inr e)
          rw [hq] at h9
          exact Nat.lt_irrefl _ h9)
      ⟨cl _ _ (.inl rfl) S1.1, cl _ _ (.inr rfl) S1.2.1, cl _ _ (.inr rfl) S1.2.2.1, cl _ _ (.inr rfl) S1.2.2.2.1, cl _ _ (.inr rfl) S1.2.2.2.2.1, cl _ _ (.inr rfl) S1.2.2.2.2.2⟩
    refine AnyE.start (S := (fun wx => wx.cell? ⟨g, 0, none⟩ = some v ∧ wx.cell? ⟨w.heap.size, 0, none⟩ = some (.int .u64 (p.key : Int)) ∧ wx.cell? ⟨w.heap.size, 1, none⟩ = some (.int .i64 p.off) ∧ wx.cell? ⟨w.heap.size, 2, none⟩ = some (.int .i64 p.len) ∧ wx.cell? ⟨w.heap.size, 3, none⟩ = some (.int .u32 (p.cookie : Int)) ∧ wx.cell? ⟨w.heap.size, 4, none⟩ = some (.bool p.gone))) 11 (by kernel_rfl) S0 (fun hHeld => ?_)
    refine AnyE.take (i := 0) (v := ?_) rfl (by kernel_rfl) (by kernel_rfl) (by kernel_rfl) (by kernel_rfl) (fun _ _ _ h => h) (Or.inl ⟨by rfl, ?_⟩) (by assumption) ?_
    rotate_left 1
    · intro w hSw
      (try dsimp only at hSw)
      go_simp
      all_goals (with_reducible rfl)
    try simp only [Act.put, List.getElem_toArray, List.getElem_cons_zero, List.getElem_cons_succ, List.setIfInBounds_toArray, List.set_cons_zero, List.set_cons_succ]
    refine AnyE.take (i := 1) (v := ?_) rfl (by kernel_rfl) (by kernel_rfl) (by kernel_rfl) (by kernel_rfl) (fun _ _ _ h => h) (Or.inl ⟨by rfl, ?_⟩) (by assumption) ?_
    rotate_left 1
    · intro w hSw
      (try dsimp only at hSw)
      go_simp
      all_goals (with_reducible rfl)
    try simp only [Act.put, List.getElem_toArray, List.getElem_cons_zero, List.getElem_cons_succ, List.setIfInBounds_toArray, List.set_cons_zero, List.set_cons_succ]
    refine AnyE.take (i := 2) (v := ?_) rfl (by kernel_rfl) (by kernel_rfl) (by kernel_rfl) (by kernel_rfl) (fun _ _ _ h => h) (Or.inl ⟨by rfl, ?_⟩) (by assumption) ?_
    rotate_left 1
    · intro w hSw
      (try dsimp only at hSw)
      go_simp
      all_goals (with_reducible rfl)
    try simp only [Act.put, List.getElem_toArray, List.getElem_cons_zero, List.getElem_cons_succ, List.setIfInBounds_toArray, List.set_cons_zero, List.set_cons_succ]
    refine AnyE.take (i := 3) (v := ?_) rfl (by kernel_rfl) (by kernel_rfl) (by kernel_rfl) (by kernel_rfl) (fun _ _ _ h => h) (Or.inl ⟨by rfl, ?_⟩) (by assumption) ?_
    rotate_left 1
    · intro w hSw
      (try dsimp only at hSw)
      go_simp
      all_goals (with_reducible rfl)
    try simp only [Act.put, List.getElem_toArray, List.getElem_cons_zero, List.getElem_cons_succ, List.setIfInBounds_toArray, List.set_cons_zero, List.set_cons_succ]
    refine AnyE.take (i := 4) (v := ?_) rfl (by kernel_rfl) (by kernel_rfl) (by kernel_rfl) (by kernel_rfl) (fun _ _ _ h => h) (Or.inl ⟨by rfl, ?_⟩) (by assumption) ?_
    rotate_left 1
    · intro w hSw
      (try dsimp only at hSw)
      go_simp
      all_goals (with_reducible rfl)
    try simp only [Act.put, List.getElem_toArray, List.getElem_cons_zero, List.getElem_cons_succ, List.setIfInBounds_toArray, List.set_cons_zero, List.set_cons_succ]
    refine AnyE.take (i := 5) (v := ?_) rfl (by kernel_rfl) (by kernel_rfl) (by kernel_rfl) (by kernel_rfl) (fun _ _ _ h => h) (Or.inl ⟨by rfl, ?_⟩) (by assumption) ?_
    rotate_left 1
    · intro w hSw
      (try dsimp only at hSw)
      go_simp
      all_goals (with_reducible rfl)
    try simp only [Act.put, List.getElem_toArray, List.getElem_cons_zero, List.getElem_cons_succ, List.setIfInBounds_toArray, List.set_cons_zero, List.set_cons_succ]
    refine AnyE.take (i := 6) (v := ?_) rfl (by kernel_rfl) (by kernel_rfl) (by kernel_rfl) (by kernel_rfl) (fun _ _ _ h => h) (Or.inl ⟨by rfl, ?_⟩) (by assumption) ?_
    rotate_left 1
    · intro w hSw
      (try dsimp only at hSw)
      go_simp
      all_goals (with_reducible rfl)
    try simp only [Act.put, List.getElem_toArray, List.getElem_cons_zero, List.getElem_cons_succ, List.setIfInBounds_toArray, List.set_cons_zero, List.set_cons_succ]
    refine AnyE.next (rs := [7]) (by kernel_rfl) (by simp) ?_
    refine AllE.cons rfl (fun K hK => ?_) AllE.nil
    go_simp
    refine hK.out _ _ (by first | exact S1 | (rw [hw3]; exact S1)) (fun hHeld => ?_)
    clear hK K
    try simp only [Act.put, List.getElem_toArray, List.getElem_cons_zero, List.getElem_cons_succ, List.setIfInBounds_toArray, List.set_cons_zero, List.set_cons_succ]
    refine AnyE.next (rs := [8]) (by kernel_rfl) (by simp) ?_
    refine AllE.cons rfl (fun K hK => ?_) AllE.nil
    go_simp
    refine HIN.out.mono ?_
    rintro e w4 ⟨v', rfl, h1, h2, h3⟩
    obtain ⟨x4, c4, rfl, _, _⟩ := ownsRow_slice h1
    have K4 : w4.cell? ⟨g, 0, none⟩ = some v := h2.cell k3 (fun e => HA3.out.apart e)
    have Z4 : w4.frozen? ⟨g, 0, none⟩ = false := (h2.frozen (p := ⟨g, 0, none⟩) HA3.out.blk.lt (fun e => HA3.out.apart e)).trans (HA3.out.blk.free 0)
    refine hK.out _ _ (F _ h2) (fun hHeld => ?_)
    clear hK K
    try simp only [Act.put, List.getElem_toArray, List.getElem_cons_zero, List.getElem_cons_succ, List.setIfInBounds_toArray, List.set_cons_zero, List.set_cons_succ]
    refine AnyE.next (rs := [9]) (by kernel_rfl) (by simp) ?_
    refine AllE.cons rfl (fun K hK => ?_) AllE.nil
    go_simp
    refine hK.out _ _ (F _ h2) (fun hHeld => ?_)
    clear hK K
    try simp only [Act.put, List.getElem_toArray, List.getElem_cons_zero, List.getElem_cons_succ, List.setIfInBounds_toArray, List.set_cons_zero, List.set_cons_succ]
    refine AnyE.next (rs := [10]) (by kernel_rfl) (by simp) ?_
    refine AllE.cons rfl (fun K hK => ?_) AllE.nil
    go_simp
    refine hK.out _ _ (F _ h2) (fun hHeld => ?_)
    clear hK K
    try simp only [Act.put, List.getElem_toArray, List.getElem_cons_zero, List.getElem_cons_succ, List.setIfInBounds_toArray, List.set_cons_zero, List.set_cons_succ]
    refine AnyE.next (rs := [11]) (by kernel_rfl) (by simp) ?_
    refine AllE.last rfl (fun K hK => ?_)
    go_simp
    refine hK.out _ _ ?_
    clear hK K
    try simp only [Act.put, List.getElem_toArray, List.getElem_cons_zero, List.getElem_cons_succ, List.setIfInBounds_toArray, List.set_cons_zero, List.set_cons_succ]
    refine AnyE.done (by kernel_rfl) ?_ _
    go_wp2
    go_ret
    have hapart : (Value.slice x4 (l.length + 1) c4).ownBlock ≠ some g := by
      rcases h3 with h3 | h3
      · rw [h3]
        exact HA3.out.apart
      · rw [h3]
        intro e
        have := Option.some.inj e
        omega
    have hk5 : Kept (fun k => k = g) w4 (w4.setCell ⟨g, 0, none⟩ (.slice x4 (l.length + 1) c4)) := Kept.setCell (S := fun k => k = g) (Kept.refl _ w4) (.inl rfl) _
    refine ⟨rfl, .slice x4 (l.length + 1) c4, ⟨?_, ?_, hapart, put_asc HA2.out.asc p⟩, ?_, ?_⟩
    · have hb := (HA3.out.blk.kept h2 (fun e => HA3.out.apart e)).set 0 (.slice x4 (l.length + 1) c4)
      simpa using hb
    · rw [HL.out, HP.out]
      exact ownsRow_kept h1 hk5 (fun k hk e => hapart (e ▸ hk))
    · exact ((Kept.of_below HB3.out (Nat.le_refl _)).trans h2 (fun j hj _ => .inr hj)).setCell (.inl (.inl rfl)) _
    · rintro k (rfl | hk)
      · exact .inl (.inl rfl)
      · rcases h3 with h3 | h3
        · exact .inl (.inr (h3 ▸ hk))
        · rw [h3] at hk
          have := Option.some.inj hk
          exact .inr (by omega)

/-- An index that was made behind B. -/
def Own (w : World) (B g : Nat) (l : List Pos) : Prop := ∃ v, At w g v l ∧ ∀ k, own g v k → B ≤ k
theorem Own.below {w w' : World} {B C g : Nat} {l : List Pos} (h : Own w B g l) (hb : Below C w w') (hB : w.heap.size ≤ C) : Own w' B g l := by
  obtain ⟨v, h1, h2⟩ := h
  exact ⟨v, h1.below hb hB, h2⟩
theorem Own.ix {w : World} {B g : Nat} {l : List Pos} (h : Own w B g l) : ∃ v, Ix w (.pointer (some ⟨g, 0, none⟩)) v l := by
  obtain ⟨v, h1, _⟩ := h
  exact ⟨v, .at g v l h1⟩
theorem Own.mono {w : World} {B C g : Nat} {l : List Pos} (h : Own w B g l) (hC : C ≤ B) : Own w C g l := by
  obtain ⟨v, h1, h2⟩ := h
  exact ⟨v, h1, fun k hk => Nat.le_trans hC (h2 k hk)⟩
theorem Own.asc {w : World} {B g : Nat} {l : List Pos} (h : Own w B g l) : Asc l := by
  obtain ⟨v, h1, _⟩ := h
  exact h1.asc
theorem put_own (B g : Nat) (l : List Pos) (p : Pos) (w : World) (h : Own w B g l) (hl : l.length < 4096) (hB : B ≤ w.heap.size) :
    Calls Tryz.prog 65 #[.pointer (some ⟨g, 0, none⟩), pval p] w fun e w' => e = .returned .nilIface ∧ Own w' B g (put l p) ∧ Below B w w' := by
  obtain ⟨v, h1, h2⟩ := h
  refine (put_any g v l p w h1 hl).mono ?_
  rintro e w' ⟨he, v', k1, k2, k3⟩
  refine ⟨he, ⟨v', k1, fun k hk => ?_⟩, k2.below hB (fun k hk hs => ?_)⟩
  · rcases k3 k hk with h | h
    · exact h2 k h
    · omega
  · have := h2 k hs
    omega

/-- New of so many positions. -/
theorem new_any (v : Value) (ps : List Pos) (w : World) (hv : IsP w v ps) (hl : ps.length ≤ 4000) :
    Calls Tryz.prog 40 #[v] w fun e w' =>
      ∃ g, e = .returned (.pointer (some ⟨g, 0, none⟩)) ∧ Own w' w.heap.size g (puts [] ps) ∧ Below w.heap.size w w' := by
  obtain ⟨N, hN⟩ : ∃ N, ps.length = N := ⟨_, rfl⟩
  have hlen := fun W => len_P (P := Tryz.prog) hv hN 121 3 _ Tryz.underlying121 W
  have HV := Lib.hid hv
  rw [hN] at hl
  have HN := Lib.hid hN
  clear hv hN
  go_enter Tryz.func40, Tryz.ntmps40
  go_wp2
  go_loopw [10] (fun c wr => ∃ i : Nat, i ≤ N ∧ c = .int .i64 i ∧ Hid (Below w.heap.size w wr) ∧ Hid (Own wr w.heap.size w.heap.size (puts [] (ps.take i)))) (fun c _ => N - (intOf c).toNat)
  case atStart => exact ⟨0, Nat.zero_le _, rfl, Lib.hid ((Below.refl _ _).alloc (Nat.le_refl _) _), Lib.hid ⟨_, ⟨Blk.new w _ _, World.ownsRow_nil _ _ _ _, by simp [Value.ownBlock], Asc.nil⟩, by
    rintro k (rfl | e)
    · exact Nat.le_refl _
    · simp [Value.ownBlock] at e⟩⟩
  case round =>
    obtain ⟨i, hiN, rfl, HB, HO⟩ := hrel
    by_cases hlt : i < N
    · obtain ⟨p, hp⟩ : ∃ p, pat ps i = p := ⟨_, rfl⟩
      obtain ⟨b, o, hidx, c0, c1, c2, c3, c4⟩ := indexAt_P (HV.out.mono HB.out (Nat.le_refl _)) 121 124 Tryz.underlying121 Tryz.sizePos i (by rw [HN.out]; omega)
      rw [hp] at c0 c1 c2 c3 c4
      have HT := Lib.hid (show puts [] (ps.take (i + 1)) = put (puts [] (ps.take i)) p from by rw [take_snoc (by rw [HN.out]; exact hlt), puts_snoc, hp])
      have hsz := HB.out.size
      have HL := Lib.hid (show (puts [] (ps.take i)).length < 4096 from by
        have := length_puts [] (ps.take i)
        rw [List.length_take] at this
        simp at this
        omega)
      have HC := Lib.hid (show PCells wr b o p from ⟨c0, c1, c2, c3, c4⟩)
      clear hp
      go_wp2_with fail
      refine (put_own w.heap.size w.heap.size _ p _ (HO.out.below ((Below.refl _ _).alloc (Nat.le_refl _) _) (Nat.le_refl _)) HL.out (by simp; omega)).mono ?_
      rintro e w2 ⟨rfl, h1, h2⟩
      rw [← HT.out] at h1
      have H1 := Lib.hid h1
      have H2 := Lib.hid ((HB.out.alloc hsz _).trans h2)
      clear h1 h2 c0 c1 c2 c3 c4 hidx
      go_wp2
      go_roundw
      case rel => exact ⟨i + 1, by omega, by go_num, H2, H1⟩
      case measure => simp [intOf]; omega
    · obtain rfl : i = N := by omega
      have h9 := HO.out
      rw [List.take_of_length_le (by rw [HN.out]; omega)] at h9
      have H9 := Lib.hid h9
      clear h9
      go_wp2
      go_ret
      exact ⟨_, rfl, H9.out, HB.out⟩

end Go.Proofs.YtllbngopfganjaaGreatDoor.Q
end
