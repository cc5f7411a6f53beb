/- Positions in memory; package check by contracts: the small ones. -/
import Derived.Test.YtengfglopagdmaaChk
import Derived.Test.YtengfglopagdmaaPack
import Derived.Deep.CutRange
import Derived.Deep.RegionHeld3
import Derived.BigQuiet
namespace Go.Proofs.Ytengfglopagdmaa
open Go.RowKit Go.Cor

theorem Try.infoPos : (Try.prog.info? 53).map (fun i => (i.zero, i.size, i.bytes)) = some (some (.agg #[.int .u64 0, .int .i64 0, .int .i64 0, .int .u32 0, .bool false]), 5, 32) := by kernel_rfl
theorem Try.infoPosR : (Try.prog.info? 50).map (fun i => (i.zero, i.size, i.bytes)) = some (some (.agg #[.int .u64 0, .int .i64 0, .int .i64 0, .int .u32 0, .bool false]), 5, 32) := by kernel_rfl
theorem Try.sizePos : (Try.prog.info? 53).map (·.size) = some 5 := by kernel_rfl
theorem Try.sizePosR : (Try.prog.info? 50).map (·.size) = some 5 := by kernel_rfl

/-- A position as a value, and as cells. -/
abbrev pval (p : Pos) : Value := .agg #[.int .u64 (p.key : Int), .int .i64 p.off, .int .i64 p.len, .int .u32 (p.cookie : Int), .bool p.gone]
def pcells (p : Pos) : List Value := [.int .u64 (p.key : Int), .int .i64 p.off, .int .i64 p.len, .int .u32 (p.cookie : Int), .bool p.gone]
def pcs : List Pos → List Value
  | [] => []
  | p :: r => pcells p ++ pcs r
/-- A checkpoint as a value. -/
abbrev cval (c : Chk) (v : Value) : Value := .agg #[.int .i64 c.vol, .int .i64 c.gen, .int .i64 c.upto, v]
theorem pcs_append (a b : List Pos) : pcs (a ++ b) = pcs a ++ pcs b := by
  induction a with
  | nil => rfl
  | cons n r ih => simp [pcs, ih, List.append_assoc]
theorem length_pcs (ps : List Pos) : (pcs ps).length = ps.length * 5 := by
  induction ps with
  | nil => rfl
  | cons n r ih =>
    simp only [pcs, List.length_append, ih, List.length_cons]
    show 5 + r.length * 5 = _
    omega
theorem pcs_one (ps : List Pos) : ∀ v ∈ pcs ps, v.oneCell' = true := by
  induction ps with
  | nil => intro v hv; cases hv
  | cons n r ih =>
    intro v hv
    rcases List.mem_append.1 hv with h | h
    · simp only [pcells, List.mem_cons, List.not_mem_nil, or_false] at h
      rcases h with rfl | rfl | rfl | rfl | rfl <;> rfl
    · exact ih v h
theorem pcells_one (p : Pos) : ∀ v ∈ pcells p, v.oneCell' = true := by
  intro v hv
  have := pcs_one [p] v
  simp only [pcs, List.append_nil] at this
  exact this hv
theorem pcs_get {ps : List Pos} {i : Nat} {p : Pos} (h : ps[i]? = some p) (j : Nat) (hj : j < 5) : (pcs ps)[i * 5 + j]? = (pcells p)[j]? := by
  induction ps generalizing i with
  | nil => simp at h
  | cons n r ih =>
    cases i with
    | zero =>
      simp only [List.getElem?_cons_zero, Option.some.injEq] at h
      subst h
      rw [Nat.zero_mul, Nat.zero_add, pcs, List.getElem?_append_left (by show j < 5; exact hj)]
    | succ i =>
      rw [List.getElem?_cons_succ] at h
      rw [pcs, List.getElem?_append_right (by show 5 ≤ _; omega)]
      show (pcs r)[(i + 1) * 5 + j - 5]? = _
      rw [show (i + 1) * 5 + j - 5 = i * 5 + j from by omega]
      exact ih h

/-- A position lies at an address. -/
def PCells (w : World) (b o : Nat) (p : Pos) : Prop :=
  w.cell? ⟨b, o, none⟩ = some (.int .u64 (p.key : Int)) ∧ w.cell? ⟨b, o + 1, none⟩ = some (.int .i64 p.off) ∧ w.cell? ⟨b, o + 2, none⟩ = some (.int .i64 p.len) ∧ w.cell? ⟨b, o + 3, none⟩ = some (.int .u32 (p.cookie : Int)) ∧ w.cell? ⟨b, o + 4, none⟩ = some (.bool p.gone)
theorem PCells.lt {w : World} {b o : Nat} {p : Pos} (h : PCells w b o p) : b < w.heap.size := cell_lt h.1
theorem PCells.mono {w w' : World} {b o B : Nat} {p : Pos} (h : PCells w b o p) (hb : Below B w w') (hB : b < B) : PCells w' b o p := by
  obtain ⟨h0, h1, h2, h3, h4⟩ := h
  exact ⟨(hb.cell (by exact hB)).trans h0, (hb.cell (by exact hB)).trans h1, (hb.cell (by exact hB)).trans h2, (hb.cell (by exact hB)).trans h3, (hb.cell (by exact hB)).trans h4⟩
/-- v is a slice of positions. -/
def IsP (w : World) (v : Value) (ps : List Pos) : Prop :=
  ∃ a cap, v = .slice a ps.length cap ∧ ps.length ≤ cap ∧ cap ≤ maxLen ∧ (ps.length = 0 ∨ ∃ b off, a = some ⟨b, off, none⟩ ∧ ∀ i, i < ps.length → PCells w b (off + i * 5) (pat ps i))
theorem IsP.nil (w : World) : IsP w (.slice none 0 0) [] := ⟨none, 0, rfl, Nat.le_refl _, Nat.zero_le _, .inl rfl⟩
theorem IsP.mono {w w' : World} {v : Value} {ps : List Pos} {B : Nat} (h : IsP w v ps) (hb : Below B w w') (hB : w.heap.size ≤ B) : IsP w' v ps := by
  obtain ⟨a, cap, rfl, h1, h2, h3⟩ := h
  refine ⟨a, cap, rfl, h1, h2, ?_⟩
  rcases h3 with h3 | ⟨b, off, rfl, hc⟩
  · exact .inl h3
  · exact .inr ⟨b, off, rfl, fun i hi => (hc i hi).mono hb (Nat.lt_of_lt_of_le (hc i hi).lt hB)⟩
theorem IsP.at_len {w : World} {v : Value} {ps : List Pos} {n : Nat} (h : IsP w v ps) (hn : ps.length = n) : ∃ x cap, v = .slice x n cap ∧ n ≤ cap ∧ cap ≤ maxLen := by
  obtain ⟨x, cap, rfl, h1, h2, _⟩ := h
  subst hn
  exact ⟨x, cap, rfl, h1, h2⟩
theorem PCells.own {w : World} {base : Nat} {e : TypeId} {g n cap : Nat} {ps : List Pos} (h : w.ownsRow base e 5 (.slice (some ⟨g, 0, none⟩) n cap) n (pcs ps)) {i : Nat} (hi : i < ps.length) (hn : n = ps.length) : PCells w g (i * 5) (pat ps i) := by
  subst hn
  have c : ∀ j, j < 5 → w.cell? ⟨g, i * 5 + j, none⟩ = (pcells (pat ps i))[j]? := fun j hj => by
    rw [h.cellAt (i * 5 + j) (by omega), pcs_get (get_pat hi) j hj]
  exact ⟨c 0 (by decide), c 1 (by decide), c 2 (by decide), c 3 (by decide), c 4 (by decide)⟩
theorem IsP.own {w : World} {base : Nat} {e : TypeId} {v : Value} {ps : List Pos} {n : Nat} (h : w.ownsRow base e 5 v n (pcs ps)) (hn : n = ps.length) : IsP w v ps := by
  subst hn
  rcases h.2 with ⟨rfl, h0⟩ | ⟨g, cap, cur, rfl, _, hg, hc, hm, hs, ht⟩
  · have : ps = [] := List.eq_nil_of_length_eq_zero h0
    subst this
    exact IsP.nil w
  · refine ⟨_, cap, rfl, hc, hm, .inr ⟨g, 0, rfl, fun i hi => ?_⟩⟩
    rw [Nat.zero_add]
    exact PCells.own h hi rfl
theorem len_P {P : Program} {w : World} {v : Value} {ps : List Pos} (hv : IsP w v ps) {n : Nat} (hn : ps.length = n) (T ty U : TypeId) (ht : P.underlying T = some (.slice U)) (W : World) : (Builtin.len_ #[T] ty #[v]).run P W = .ok (.int .i64 (n : Int)) W := by
  obtain ⟨a, cap, rfl, _⟩ := hv
  subst hn
  have ht' : P.underlying T = some (.slice (P.elem T)) := by simp [Program.elem, ht]
  exact run_len_slice (P := P) W T ty a ps.length cap ht'
theorem indexAt_P {P : Program} {w : World} {v : Value} {ps : List Pos} (hv : IsP w v ps) (T U : TypeId) (ht : P.underlying T = some (.slice U)) (hs : (P.info? U).map (·.size) = some 5) (i : Nat) (hi : i < ps.length) :
    ∃ b o, (∀ W, (Instr.indexAt T v (.int .i64 (i : Int))).run P W = .ok (.pointer (some ⟨b, o, none⟩)) W) ∧ PCells w b o (pat ps i) := by
  obtain ⟨j, hj1, hj2⟩ := Option.map_eq_some_iff.1 hs
  obtain ⟨a, cap, rfl, k1, k2, k3⟩ := hv
  rcases k3 with k3 | ⟨b, off, rfl, hc⟩
  · omega
  refine ⟨b, off + i * 5, fun W => ?_, hc i hi⟩
  have ht' : P.underlying T = some (.slice (P.elem T)) := by simp [Program.elem, ht]
  have he : P.elem T = U := by simp [Program.elem, ht]
  have hsz : ∀ W, (sizeOf U).run P W = .ok 5 W := fun W => by simp [sizeOf, typeInfo, hj1, hj2]
  have h0 : (0 : Int) ≤ (i : Int) := by omega
  have h1 : (i : Int) < (ps.length : Int) := by omega
  go_simp

/-- Is n from a to b? -/
def inB (n a b : Int) : Bool := decide (a ≤ n ∧ n ≤ b)
theorem within_any (n a b : Int) (w : World) :
    Calls Try.prog 21 #[.int .i64 n, .int .i64 a, .int .i64 b] w fun e w' => e = .returned (.bool (inB n a b)) ∧ w = w' := by
  by_cases h1 : a ≤ n
  · by_cases h2 : n ≤ b
    · have e : inB n a b = true := decide_eq_true ⟨h1, h2⟩
      rw [e]
      go_enter Try.func21, Try.ntmps21
      go_wp2
      go_ret
      exact ⟨rfl, rfl⟩
    · have e : inB n a b = false := decide_eq_false fun h => h2 h.2
      rw [e]
      go_enter Try.func21, Try.ntmps21
      go_wp2
      go_ret
      exact ⟨rfl, rfl⟩
  · have e : inB n a b = false := decide_eq_false fun h => h1 h.1
    rw [e]
    go_enter Try.func21, Try.ntmps21
    go_wp2
    go_ret
    exact ⟨rfl, rfl⟩

theorem num_anyC (n s : Nat) (w : World) (h : Sized (s : Int)) (hn : n ≤ great (s : Int)) :
    Calls Try.prog 16 #[.int .u64 n, .int .i64 (s : Int)] w fun e w' =>
      ∃ v', e = .returned v' ∧ w'.ownsRow w.heap.size 5 1 v' s (bvs (le n s)) ∧ Below w.heap.size w w' := by
  go_enter Try.func16, Try.ntmps16
  go_wp2_with fail
  refine (put_ok _ [] n s _ h hn (IsB.nil _) (by simp)).mono ?_
  rintro e w' ⟨v', rfl, hown, hb⟩
  rw [List.nil_append, length_le] at hown
  go_wp2
  go_ret
  exact ⟨_, rfl, hown, hb⟩

theorem at_anyC (v : Value) (l : List UInt8) (a s : Nat) (w : World) (hs : Sized (s : Int)) (hv : IsB w v l) (hl : l.length ≤ 1099511627776) (h : a + s ≤ l.length) :
    Calls Try.prog 28 #[v, .int .i64 a, .int .i64 s] w fun e w' => e = .returned (.int .u64 (fld l a s : Nat)) ∧ w = w' := by
  go_enter Try.func28, Try.ntmps28
  go_wp2_with fail
  refine (get_ok _ l a s _ hs hv hl h).mono ?_
  rintro e w' ⟨rfl, rfl⟩
  go_wp2
  go_ret
  exact ⟨rfl, rfl⟩

theorem can_any (p : Pos) (w : World) :
    Calls Try.prog 22 #[pval p] w fun e w' => e = .returned (.bool (pcan p)) ∧ Below w.heap.size w w' := by
  obtain ⟨key, off, len, cookie, gone⟩ := p
  have q1 : inB off 0 16777216 = decide (0 ≤ off ∧ off ≤ 16777216) := rfl
  have q2 : inB len 0 4096 = decide (0 ≤ len ∧ len ≤ 4096) := rfl
  by_cases h1 : 0 ≤ off ∧ off ≤ 16777216
  · rw [decide_eq_true h1] at q1
    by_cases h2 : 0 ≤ len ∧ len ≤ 4096
    · rw [decide_eq_true h2] at q2
      cases gone with
      | false =>
        have e : pcan ⟨key, off, len, cookie, false⟩ = true := decide_eq_true ⟨h1.1, h1.2, h2.1, h2.2, fun h => by cases h⟩
        rw [e]
        go_enter Try.func22, Try.ntmps22
        go_wp2_with (go_at_call 21; refine (within_any _ _ _ _).mono ?_; rintro e w' ⟨rfl, rfl⟩; first | rw [q1] | rw [q2])
        go_ret
        exact ⟨rfl, (Below.refl _ _).alloc (Nat.le_refl _) _⟩
      | true =>
        by_cases h3 : len = 0
        · have e : pcan ⟨key, off, len, cookie, true⟩ = true := decide_eq_true ⟨h1.1, h1.2, h2.1, h2.2, fun _ => h3⟩
          rw [e]
          subst h3
          go_enter Try.func22, Try.ntmps22
          go_wp2_with (go_at_call 21; refine (within_any _ _ _ _).mono ?_; rintro e w' ⟨rfl, rfl⟩; first | rw [q1] | rw [q2])
          go_ret
          exact ⟨rfl, (Below.refl _ _).alloc (Nat.le_refl _) _⟩
        · have e : pcan ⟨key, off, len, cookie, true⟩ = false := decide_eq_false fun h => h3 (h.2.2.2.2 rfl)
          rw [e]
          have q3 : (len == 0) = false := by simpa using h3
          go_enter Try.func22, Try.ntmps22
          go_wp2_with (go_at_call 21; refine (within_any _ _ _ _).mono ?_; rintro e w' ⟨rfl, rfl⟩; first | rw [q1] | rw [q2])
          go_ret
          exact ⟨rfl, (Below.refl _ _).alloc (Nat.le_refl _) _⟩
    · rw [decide_eq_false h2] at q2
      have e : pcan ⟨key, off, len, cookie, gone⟩ = false := decide_eq_false fun h => h2 ⟨h.2.2.1, h.2.2.2.1⟩
      rw [e]
      go_enter Try.func22, Try.ntmps22
      go_wp2_with (go_at_call 21; refine (within_any _ _ _ _).mono ?_; rintro e w' ⟨rfl, rfl⟩; first | rw [q1] | rw [q2])
      go_ret
      exact ⟨rfl, (Below.refl _ _).alloc (Nat.le_refl _) _⟩
  · rw [decide_eq_false h1] at q1
    have e : pcan ⟨key, off, len, cookie, gone⟩ = false := decide_eq_false fun h => h1 ⟨h.1, h.2.1⟩
    rw [e]
    go_enter Try.func22, Try.ntmps22
    go_wp2_with (go_at_call 21; refine (within_any _ _ _ _).mono ?_; rintro e w' ⟨rfl, rfl⟩; first | rw [q1] | rw [q2])
    go_ret
    exact ⟨rfl, (Below.refl _ _).alloc (Nat.le_refl _) _⟩

end Go.Proofs.Ytengfglopagdmaa
