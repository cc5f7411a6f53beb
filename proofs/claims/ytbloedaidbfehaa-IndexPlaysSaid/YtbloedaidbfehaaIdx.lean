/- Package index: what reads it, by contracts. -/
import Derived.Test.YtbloedaidbfehaaIns
namespace Go.Proofs.Ytbloedaidbfehaa
open Go.RowKit Go.Cor

/-- An index lies in a box, its positions in a row of its own. -/
structure At (w : World) (g : Nat) (v : Value) (l : List Pos) : Prop where
  blk : Blk w g #[v] 52
  row : w.ownsRow 0 32 5 v l.length (row pcells l)
  apart : v.ownBlock ≠ some g
  asc : Asc l
/-- The blocks that it lies in. -/
def own (g : Nat) (v : Value) : Nat → Prop := fun k => k = g ∨ v.ownBlock = some k
theorem At.kept {S : Nat → Prop} {w w' : World} {g : Nat} {v : Value} {l : List Pos} (h : At w g v l) (hk : Kept S w w') (hs : ∀ k, own g v k → ¬ S k) : At w' g v l :=
  ⟨h.blk.kept hk (hs g (.inl rfl)), ownsRow_kept h.row hk (fun k e => hs k (.inr e)), h.apart, h.asc⟩
theorem At.below {w w' : World} {g B : Nat} {v : Value} {l : List Pos} (h : At w g v l) (hb : Below B w w') (hB : w.heap.size ≤ B) : At w' g v l :=
  h.kept (S := fun _ => False) (Kept.of_below hb hB) (fun _ _ h => h)
theorem At.lt {w : World} {g : Nat} {v : Value} {l : List Pos} (h : At w g v l) : ∀ k, own g v k → k < w.heap.size := by
  rintro k (rfl | e)
  · exact h.blk.lt
  · exact (h.row.lt k e).2
theorem At.isP {w : World} {g : Nat} {v : Value} {l : List Pos} (h : At w g v l) : IsP w v l := IsX.own h.row
theorem At.drew {w : World} {g : Nat} {v : Value} {l : List Pos} (h : At w g v l) : At w.drew g v l := h.kept (S := fun _ => False) (Kept.refl _ w).drew (fun _ _ h => h)

/-- slices.Clone of positions. -/
theorem clone_any (v : Value) (l : List Pos) (w : World) (hv : IsP w v l) (hl : l.length ≤ 1048576) :
    Calls Try.prog 24 #[v] w fun e w' =>
      ∃ v', e = .returned v' ∧ w'.ownsRow w.heap.size 32 5 v' l.length (row pcells l) ∧ Below w.heap.size w w' := by
  obtain ⟨i0, hi, hz0, hz1, hz2⟩ := info_parts Try.infoPos
  have q22 : ∀ (w : World) (a : Option Addr) (n c n' c' : Nat), (binOp .eql 39 (.slice a n c) (.slice none n' c')).run Try.prog w = .ok (.bool a.isNone) w := fun w a n c n' c' => Lib.run_eql_slice_nil w _ _ a n c n' c' Try.underlying39
  have HV := Lib.hid hv
  obtain ⟨x, cap, rfl, hlc, hcm, hll, hnc, hcell⟩ := hv
  clear hcell hll
  cases x with
  | none =>
    obtain rfl := hnc rfl
    obtain rfl : l = [] := List.eq_nil_of_length_eq_zero (by omega)
    go_enter Try.func24, Try.ntmps24
    go_wp2
    go_ret
    exact ⟨_, rfl, World.ownsRow_nil _ _ _ _, Below.refl _ _⟩
  | some a =>
    clear hnc
    go_enter Try.func24, Try.ntmps24
    go_wp2_with (at_builtin; refine wpList_append_X (by rfl) _ _ 39 39 rfl (fun _ _ _ => rfl) w.heap.size 32 i0 _ 5 32 Try.underlying39 hi hz0 hz1 hz2 rfl (by decide) _ [] 0 rfl (World.ownsRow_lit _ #[] 0 (Nat.le_refl _) (Nat.zero_le _) rfl) _ l.length _ rfl (HV.out.mono ((Below.refl _ _).alloc (Nat.le_refl _) _) (Nat.le_refl _)) (pcs_one l) (by unfold maxLen; omega) (by omega) (by simp) ?_; intro v4 w4 hown4 hb4 hl4)
    go_ret
    refine ⟨_, rfl, by simpa using hown4, ((Below.refl _ _).alloc (Nat.le_refl _) _).grown hb4 (by simp) (fun k hk => ?_)⟩
    have : some w.heap.size = some k := hk
    cases this
    exact Nat.le_refl _

theorem positions_nil (w : World) :
    Calls Try.prog 25 #[.pointer none] w fun e w' => e = .returned (.slice none 0 0) ∧ w = w' := by
  go_enter Try.func25, Try.ntmps25
  go_wp2
  go_ret
  exact ⟨rfl, rfl⟩
theorem positions_any (g : Nat) (v : Value) (w : World) (h : w.cell? ⟨g, 0, none⟩ = some v) :
    Calls Try.prog 25 #[.pointer (some ⟨g, 0, none⟩)] w fun e w' => e = .returned v ∧ w = w' := by
  go_enter Try.func25, Try.ntmps25
  go_wp2
  go_ret
  exact ⟨rfl, rfl⟩

/-- x is an index of these positions, or none, if there are none. -/
inductive Ix (w : World) : Value → Value → List Pos → Prop
  | nil : Ix w (.pointer none) (.slice none 0 0) []
  | at (g : Nat) (v : Value) (l : List Pos) (h : At w g v l) : Ix w (.pointer (some ⟨g, 0, none⟩)) v l
theorem Ix.isP {w : World} {x v : Value} {l : List Pos} (h : Ix w x v l) : IsP w v l := by
  cases h with
  | nil => exact IsP.nil w
  | «at» g v l h => exact h.isP
theorem Ix.asc {w : World} {x v : Value} {l : List Pos} (h : Ix w x v l) : Asc l := by
  cases h with
  | nil => exact Asc.nil
  | «at» g v l h => exact h.asc
theorem Ix.below {w w' : World} {x v : Value} {l : List Pos} {B : Nat} (h : Ix w x v l) (hb : Below B w w') (hB : w.heap.size ≤ B) : Ix w' x v l := by
  cases h with
  | nil => exact .nil
  | «at» g v l h => exact .at g v l (h.below hb hB)
theorem Ix.alloc {w : World} {x v : Value} {l : List Pos} (h : Ix w x v l) (o : Obj) : Ix (w.alloc o) x v l := h.below ((Below.refl _ _).alloc (Nat.le_refl _) o) (Nat.le_refl _)
theorem blk5_facts {w : World} {g : Nat} {a0 a1 a2 a3 a4 : Value} {T : TypeId} (h : Blk w g #[a0, a1, a2, a3, a4] T) :
    w.cell? ⟨g, 0, none⟩ = some a0 ∧ w.cell? ⟨g, 1, none⟩ = some a1 ∧ w.cell? ⟨g, 2, none⟩ = some a2 ∧ w.cell? ⟨g, 3, none⟩ = some a3 ∧ w.cell? ⟨g, 4, none⟩ = some a4 ∧ (∀ j, w.frozen? ⟨g, j, none⟩ = false) :=
  ⟨h.cell 0 rfl, h.cell 1 rfl, h.cell 2 rfl, h.cell 3 rfl, h.cell 4 rfl, h.free⟩
def set5 (w : World) (g : Nat) (u0 u1 u2 u3 u4 : Value) : World := ((((w.setCell ⟨g, 0, none⟩ u0).setCell ⟨g, 1, none⟩ u1).setCell ⟨g, 2, none⟩ u2).setCell ⟨g, 3, none⟩ u3).setCell ⟨g, 4, none⟩ u4
theorem blk_set5 {w : World} {g : Nat} {a0 a1 a2 a3 a4 : Value} {T : TypeId} (h : Blk w g #[a0, a1, a2, a3, a4] T) (u0 u1 u2 u3 u4 : Value) : Blk (set5 w g u0 u1 u2 u3 u4) g #[u0, u1, u2, u3, u4] T := by
  have := ((((h.set 0 u0).set 1 u1).set 2 u2).set 3 u3).set 4 u4
  simp at this
  exact this
theorem below_set5 {w0 w : World} {B g : Nat} {u0 u1 u2 u3 u4 : Value} (hb : Below B w0 w) (hB : B ≤ g) : Below B w0 (set5 w g u0 u1 u2 u3 u4) :=
  ((((hb.setCell hB _).setCell hB _).setCell hB _).setCell hB _).setCell hB _
theorem positions_ix (x v : Value) (l : List Pos) (w : World) (h : Ix w x v l) :
    Calls Try.prog 25 #[x] w fun e w' => e = .returned v ∧ w = w' := by
  cases h with
  | nil => exact positions_nil w
  | «at» g v l h => exact positions_any g v w (h.blk.cell 0 rfl)

theorem all_any (x v : Value) (l : List Pos) (w : World) (h : Ix w x v l) (hl : l.length ≤ 1048576) :
    Calls Try.prog 14 #[x] w fun e w' =>
      ∃ v', e = .returned v' ∧ w'.ownsRow w.heap.size 32 5 v' l.length (row pcells l) ∧ Below w.heap.size w w' := by
  have H := Lib.hid h
  clear h
  go_enter Try.func14, Try.ntmps14
  go_wp2_with fail
  refine (positions_ix x v l _ H.out).mono ?_
  rintro e w' ⟨rfl, rfl⟩
  go_wp2_with fail
  refine (clone_any v l _ H.out.isP hl).mono ?_
  rintro e w' ⟨v', rfl, h1, h2⟩
  go_wp2
  go_ret
  exact ⟨_, rfl, h1, h2⟩

/-- No error, or why. -/
def foundE (o : Option Pos) : Value := if o.isSome then .nilIface else .iface 53 (.int .i64 6)

set_option maxHeartbeats 1000000 in
theorem find_any (x v : Value) (l : List Pos) (k : Nat) (w : World) (h : Ix w x v l) (hl : l.length ≤ 1048576) :
    Calls Try.prog 15 #[x, .int .u64 (k : Int)] w fun e w' =>
      e = .returned (.tuple #[pval ((fnd l k).getD pzero), foundE (fnd l k)]) ∧ Below w.heap.size w w' := by
  have H := Lib.hid h
  clear h
  obtain ⟨r, hr⟩ : ∃ r, fnd l k = r := ⟨_, rfl⟩
  rw [hr]
  have HR := Lib.hid hr
  clear hr
  go_enter Try.func15, Try.ntmps15
  go_wp2_with fail
  refine (positions_ix x v l _ (H.out.alloc _)).mono ?_
  rintro e w1 ⟨rfl, rfl⟩
  go_wp2_with fail
  refine (place_any v l k _ (H.out.alloc _).isP H.out.asc hl).mono ?_
  rintro e w2 ⟨rfl, hb2⟩
  rw [HR.out]
  have HK := Lib.hid ((Blk.new w #[.int .u64 0, .int .i64 0, .int .i64 0, .int .u32 0, .bool false] 32).below hb2 (by simp))
  obtain ⟨k0, k1, k2, k3, k4, kf⟩ := blk5_facts HK.out
  have hb3 := Lib.hid (((Below.refl w.heap.size w).alloc (Nat.le_refl _) _).trans (hb2.mono (by simp)))
  have hlt : w.heap.size < w2.heap.size := by have := hb2.size; simp at this; omega
  have HP2 := Lib.hid (((H.out.alloc _).below hb2 (Nat.le_refl _)).isP)
  clear hb2
  cases r with
  | none =>
    go_wp2
    have hZ := blk_set5 HK.out (.int .u64 0) (.int .i64 0) (.int .i64 0) (.int .u32 0) (.bool false)
    have hB3 := below_set5 (u0 := (.int .u64 0)) (u1 := (.int .i64 0)) (u2 := (.int .i64 0)) (u3 := (.int .u32 0)) (u4 := (.bool false)) hb3.out (Nat.le_refl w.heap.size)
    obtain ⟨w3, hw3⟩ : ∃ w3, set5 w2 w.heap.size (.int .u64 0) (.int .i64 0) (.int .i64 0) (.int .u32 0) (.bool false) = w3 := ⟨_, rfl⟩
    rw [hw3] at hZ hB3
    unfold set5 at hw3
    rw [hw3]
    obtain ⟨z0, z1, z2, z3, z4, _⟩ := blk5_facts hZ
    exact bodyPost_ret (v := .tuple #[pval pzero, .iface 53 (.int .i64 6)]) (by simp [results, Try.results15, go_sem, z0, z1, z2, z3, z4, pzero]) rfl ⟨rfl, hB3⟩
  | some p =>
    have hp := (fnd_at HR.out).1
    have hi := (List.getElem?_eq_some_iff.1 hp).1
    obtain ⟨b, o, hidx, c0, c1, c2, c3, c4⟩ := indexAt_P HP2.out 39 32 Try.underlying39 Try.sizePos (psn l k) hi
    rw [pat_of hp] at c0 c1 c2 c3 c4
    clear hp hi
    go_wp2
    have hZ := blk_set5 HK.out (.int .u64 (p.key : Int)) (.int .i64 p.off) (.int .i64 p.len) (.int .u32 (p.cookie : Int)) (.bool p.gone)
    have hB3 := below_set5 (u0 := (.int .u64 (p.key : Int))) (u1 := (.int .i64 p.off)) (u2 := (.int .i64 p.len)) (u3 := (.int .u32 (p.cookie : Int))) (u4 := (.bool p.gone)) hb3.out (Nat.le_refl w.heap.size)
    obtain ⟨w3, hw3⟩ : ∃ w3, set5 w2 w.heap.size (.int .u64 (p.key : Int)) (.int .i64 p.off) (.int .i64 p.len) (.int .u32 (p.cookie : Int)) (.bool p.gone) = w3 := ⟨_, rfl⟩
    rw [hw3] at hZ hB3
    unfold set5 at hw3
    rw [hw3]
    obtain ⟨z0, z1, z2, z3, z4, _⟩ := blk5_facts hZ
    exact bodyPost_ret (v := .tuple #[pval p, .nilIface]) (by simp [results, Try.results15, go_sem, z0, z1, z2, z3, z4]) rfl ⟨rfl, hB3⟩

/-- The first positions from a key on. -/
def fromL (l : List Pos) (k : Nat) (most : Int) : List Pos := (l.drop (psn l k)).take most.toNat

set_option maxHeartbeats 1000000 in
theorem from_at (x v : Value) (l : List Pos) (k m : Nat) (most : Int) (w : World) (h : Ix w x v l) (hl : l.length ≤ 1048576) (hm : m ≤ l.length - psn l k)
    (hmm : most < 0 ∧ m = 0 ∨ most = (m : Int) ∨ (((l.length - psn l k : Nat) : Int) < most ∧ m = l.length - psn l k)) :
    Calls Try.prog 18 #[x, .int .u64 (k : Int), .int .i64 most] w fun e w' =>
      ∃ v', e = .returned v' ∧ w'.ownsRow w.heap.size 32 5 v' ((l.drop (psn l k)).take m).length (row pcells ((l.drop (psn l k)).take m)) ∧ Below w.heap.size w w' := by
  have H := Lib.hid h
  obtain ⟨N, hN⟩ : ∃ N, l.length = N := ⟨_, rfl⟩
  obtain ⟨q, hq⟩ : ∃ q, psn l k = q := ⟨_, rfl⟩
  have hqN := psn_le l k
  have hX : IsX w 5 v l.length (row pcells l) := h.isP
  rw [hN] at hqN hX
  rw [hN, hq] at hm hmm
  rw [hq] at hqN ⊢
  obtain ⟨a, cap, rfl, hlc, hcm⟩ := hX.slice
  have hsI := slice_l_X (P := Try.prog) hX 39 _ Try.underlying39 Try.sizePos q hqN
  have hX1 := hX.piece (lo := q) (hi := N) hqN (Nat.le_refl _)
  obtain ⟨V1, hV1⟩ : ∃ V1, sliced a q N cap 5 = V1 := ⟨_, rfl⟩
  rw [hV1] at hsI hX1
  obtain ⟨R, hR⟩ : ∃ R, N - q = R := ⟨_, rfl⟩
  have hrow : ((row pcells l).drop (q * 5)).take (R * 5) = row pcells (l.drop q) := by
    rw [row_drop pcells_len]
    exact List.take_of_length_le (by rw [length_row pcells_len, List.length_drop, hN, hR]; omega)
  rw [hR] at hX1 hm hmm
  rw [hrow] at hX1
  obtain ⟨a1, c1, rfl, hlc1, hcm1⟩ := hX1.slice
  have hlen := fun W => len_X (P := Try.prog) hX1 39 3 _ Try.underlying39 W
  have hXm := hX1.take hm
  rw [row_take pcells_len] at hXm
  have hml : ((l.drop q).take m).length = m := by rw [List.length_take, List.length_drop, hN, hR]; omega
  have HP := Lib.hid (show IsP w (.slice a1 m c1) ((l.drop q).take m) from by unfold IsP; rw [hml]; exact hXm)
  have HQ := Lib.hid hq
  have hml2 : ((l.drop q).take m).length ≤ 1048576 := by rw [hml]; omega
  have hRm : R ≤ 1048576 := by omega
  clear h hX hlc hcm hV1 hX1 hrow hN hq hR hXm hml
  generalize (l.drop q).take m = lm at *
  have tail : ∀ (w2 : World), Below w.heap.size w w2 → Calls Try.prog 24 #[.slice a1 m c1] w2 fun e w' => ∃ v', e = .returned v' ∧ w'.ownsRow w.heap.size 32 5 v' lm.length (row pcells lm) ∧ Below w.heap.size w w' := fun w2 hb =>
    (clone_any _ lm w2 (HP.out.mono hb (Nat.le_refl _)) hml2).mono fun e w' ⟨v', h1, h2, h3⟩ => ⟨v', h1, ownsRow_base h2 hb.size, hb.trans (h3.mono hb.size)⟩
  have TL := Lib.hid tail
  clear tail
  rcases hmm with ⟨hmm, rfl⟩ | rfl | ⟨hmm, rfl⟩
  all_goals
    go_enter Try.func18, Try.ntmps18
    go_wp2_with fail
    refine (positions_ix x _ l _ H.out).mono ?_
    rintro e w1 ⟨rfl, rfl⟩
    go_wp2_with fail
    refine (place_any _ l k _ H.out.isP H.out.asc hl).mono ?_
    rintro e w2 ⟨rfl, hb2⟩
    rw [HQ.out]
    have HB2 := Lib.hid hb2
    clear hb2
    go_wp2_with fail
    refine (TL.out _ HB2.out).mono ?_
    rintro e w3 ⟨v', rfl, h1, h2⟩
    have H1 := Lib.hid h1
    have H2 := Lib.hid h2
    clear h1 h2
    go_wp2
    go_ret
    exact ⟨_, rfl, H1.out, H2.out⟩

theorem from_any (x v : Value) (l : List Pos) (k : Nat) (most : Int) (w : World) (h : Ix w x v l) (hl : l.length ≤ 1048576) :
    Calls Try.prog 18 #[x, .int .u64 (k : Int), .int .i64 most] w fun e w' =>
      ∃ v', e = .returned v' ∧ w'.ownsRow w.heap.size 32 5 v' (fromL l k most).length (row pcells (fromL l k most)) ∧ Below w.heap.size w w' := by
  by_cases h1 : most < 0
  · have := from_at x v l k 0 most w h hl (Nat.zero_le _) (.inl ⟨h1, rfl⟩)
    rw [show fromL l k most = (l.drop (psn l k)).take 0 from by unfold fromL; rw [Int.toNat_of_nonpos (by omega)]]
    exact this
  · by_cases h2 : ((l.length - psn l k : Nat) : Int) < most
    · have := from_at x v l k (l.length - psn l k) most w h hl (Nat.le_refl _) (.inr (.inr ⟨h2, rfl⟩))
      rw [show fromL l k most = (l.drop (psn l k)).take (l.length - psn l k) from by
        unfold fromL
        rw [List.take_of_length_le (by rw [List.length_drop]; omega), List.take_of_length_le (by rw [List.length_drop]; omega)]]
      exact this
    · exact from_at x v l k most.toNat most w h hl (by omega) (.inr (.inl (by omega)))

/-- How many are gone. -/
def goneN (l : List Pos) : Nat := l.countP (fun p => p.gone)
theorem goneN_le (l : List Pos) : goneN l ≤ l.length := List.countP_le_length
theorem goneN_snoc {l : List Pos} {i : Nat} (h : i < l.length) : goneN (l.take (i + 1)) = goneN (l.take i) + (if (pat l i).gone then 1 else 0) := by
  rw [take_snoc h]
  unfold goneN
  rw [List.countP_append, List.countP_singleton]

set_option maxHeartbeats 1000000 in
theorem len_any (x v : Value) (l : List Pos) (w : World) (h : Ix w x v l) (hl : l.length ≤ 1048576) :
    Calls Try.prog 17 #[x] w fun e w' =>
      e = .returned (.tuple #[.int .i64 ((l.length : Int) - (goneN l : Int)), .int .i64 (goneN l : Int)]) ∧ Below w.heap.size w w' := by
  have H := Lib.hid h
  obtain ⟨N, hN⟩ : ∃ N, l.length = N := ⟨_, rfl⟩
  have hlen := fun W => len_P (P := Try.prog) h.isP hN 39 3 _ Try.underlying39 W
  rw [hN] at hl ⊢
  have HN := Lib.hid hN
  clear h hN
  go_enter Try.func17, Try.ntmps17
  go_wp2_with fail
  refine (positions_ix x _ l _ H.out).mono ?_
  rintro e w1 ⟨rfl, rfl⟩
  go_wp2_with fail
  go_loopw [2, 3, 9] (fun a b c wr => ∃ i n : Nat, i ≤ N ∧ n ≤ i ∧ c = .int .i64 i ∧ a = .int .i64 ((i : Int) - (n : Int)) ∧ b = .int .i64 (n : Int) ∧ Hid (goneN (l.take i) = n) ∧ Hid (Below w.heap.size w wr)) (fun _ _ c _ => N - (intOf c).toNat)
  case atStart => exact ⟨0, 0, Nat.zero_le _, Nat.le_refl _, rfl, rfl, rfl, Lib.hid rfl, Lib.hid (Below.refl _ _)⟩
  case round =>
    obtain ⟨i, n, hiN, hni, rfl, rfl, rfl, hG, hB⟩ := hrel
    by_cases hlt : i < N
    · obtain ⟨p, hp⟩ : ∃ p, pat l i = p := ⟨_, rfl⟩
      obtain ⟨b, o, hidx, c0, c1, c2, c3, c4⟩ := indexAt_P (H.out.isP.mono hB.out (Nat.le_refl _)) 39 32 Try.underlying39 Try.sizePos i (by rw [HN.out]; omega)
      have hsn := goneN_snoc (l := l) (i := i) (by rw [HN.out]; omega)
      rw [hG.out, hp] at hsn
      rw [hp] at c0 c1 c2 c3 c4
      have hB1 := hB.out.size
      obtain ⟨key, off, len, cookie, gone⟩ := p
      cases gone with
      | true =>
        have HS := Lib.hid (show goneN (l.take (i + 1)) = n + 1 from hsn)
        clear hsn hp
        go_wp2
        go_roundw
        case rel => exact ⟨i + 1, n + 1, by omega, by omega, by go_num, by congr 1; omega, by go_num, HS, Lib.hid (by first | exact hB.out.alloc hB1 _ | skip)⟩
        case measure => simp [intOf]; omega
      | false =>
        have HS := Lib.hid (show goneN (l.take (i + 1)) = n from hsn)
        clear hsn hp
        go_wp2
        go_roundw
        case rel => exact ⟨i + 1, n, by omega, by omega, by go_num, by congr 1; omega, by go_num, HS, Lib.hid (by first | exact hB.out.alloc hB1 _ | skip)⟩
        case measure => simp [intOf]; omega
    · obtain rfl : i = N := by omega
      have hG2 := hG.out
      rw [List.take_of_length_le (by rw [HN.out]; omega)] at hG2
      have HG2 := Lib.hid hG2
      clear hG2
      go_wp2
      go_ret2
      exact ⟨by rw [HG2.out]; rfl, hB.out⟩

theorem clone2_any (x v : Value) (l : List Pos) (w : World) (h : Ix w x v l) (hl : l.length ≤ 1048576) :
    Calls Try.prog 20 #[x] w fun e w' =>
      ∃ g v', e = .returned (.pointer (some ⟨g, 0, none⟩)) ∧ At w' g v' l ∧ Below w.heap.size w w' ∧ ∀ k, own g v' k → w.heap.size ≤ k := by
  have H := Lib.hid h
  clear h
  go_enter Try.func20, Try.ntmps20
  go_wp2_with fail
  refine (all_any x v l _ H.out hl).mono ?_
  rintro e w1 ⟨v', rfl, h1, h2⟩
  obtain ⟨x', c', rfl, _, _⟩ := ownsRow_slice h1
  have H1 := Lib.hid h1
  have H2 := Lib.hid h2
  clear h1 h2
  go_wp2
  go_ret
  refine ⟨w1.heap.size, _, rfl, ⟨Blk.new w1 _ _, ownsRow_base (H1.out.alloc _) (Nat.zero_le _), fun e => ?_, H.out.asc⟩, H2.out.alloc H2.out.size _, ?_⟩
  · have := (H1.out.lt _ e).2
    omega
  · rintro k (rfl | e)
    · exact H2.out.size
    · exact (H1.out.lt k e).1

end Go.Proofs.Ytbloedaidbfehaa
