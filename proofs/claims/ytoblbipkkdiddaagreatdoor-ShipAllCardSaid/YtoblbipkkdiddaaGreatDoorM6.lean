/- Idx, OrdE, Idxp, Ref01, Needle, Zeros. -/
import Derived.Test.YtoblbipkkdiddaaGreatDoorM5
import Derived.Deep.RegionHeld
import Derived.StillTailTactics
import Derived.Test.YtoblbipkkdiddaaGreatDoorM2
import Derived.Deep.QuietTactic
import Derived.BigQuiet
import Derived.Deep.Draws
import Derived.Test.YtoblbipkkdiddaaGreatDoorM4
import Derived.Laws.BytesArg
import Derived.Laws.BytesString
import Derived.Deep.RegionHeld3
set_option linter.unusedVariables false
set_option linter.unusedSimpArgs false

section
namespace Go.Proofs.YtoblbipkkdiddaaGreatDoor.Q
open Go.RowKit Go.Cor

/-- An index lies in a box, its positions in a row of its own. -/
structure At (w : World) (g : Nat) (v : Value) (l : List Pos) : Prop where
  blk : Blk w g #[v] 179
  row : w.ownsRow 0 83 5 v l.length (row pcells l)
  apart : v.ownBlock ≠ some g
  asc : Asc l
/-- The blocks that it lies in. -/
def own (g : Nat) (v : Value) : Nat → Prop := fun k => k = g ∨ v.ownBlock = some k
theorem At.kept {S : Nat → Prop} {w w' : World} {g : Nat} {v : Value} {l : List Pos} (h : At w g v l) (hk : Kept S w w') (hs : ∀ k, own g v k → ¬ S k) : At w' g v l :=
  ⟨h.blk.kept hk (hs g (.inl rfl)), ownsRow_kept h.row hk (fun k e => hs k (.inr e)), h.apart, h.asc⟩
theorem At.below {w w' : World} {g B : Nat} {v : Value} {l : List Pos} (h : At w g v l) (hb : Below B w w') (hB : w.heap.size ≤ B) : At w' g v l :=
  h.kept (S := fun _ => False) (Kept.of_below hb hB) (fun _ _ h => h)
theorem At.lt {w : World} {g : Nat} {v : Value} {l : List Pos} (h : At w g v l) : ∀ k, own g v k → k < w.heap.size := by
  rintro k (rfl | e)
  · exact h.blk.lt
  · exact (h.row.lt k e).2
theorem At.isP {w : World} {g : Nat} {v : Value} {l : List Pos} (h : At w g v l) : IsP w v l := IsX.own h.row
theorem At.drew {w : World} {g : Nat} {v : Value} {l : List Pos} (h : At w g v l) : At w.drew g v l := h.kept (S := fun _ => False) (Kept.refl _ w).drew (fun _ _ h => h)

/-- slices.Clone of positions. -/
theorem clone_any (v : Value) (l : List Pos) (w : World) (hv : IsP w v l) (hl : l.length ≤ 1048576) :
    Calls Tryz.prog 97 #[v] w fun e w' =>
      ∃ v', e = .returned v' ∧ w'.ownsRow w.heap.size 83 5 v' l.length (row pcells l) ∧ Below w.heap.size w w' := by
  obtain ⟨i0, hi, hz0, hz1, hz2⟩ := info_parts Tryz.infoPos
  have q22 : ∀ (w : World) (a : Option Addr) (n c n' c' : Nat), (binOp .eql 80 (.slice a n c) (.slice none n' c')).run Tryz.prog w = .ok (.bool a.isNone) w := fun w a n c n' c' => Lib.run_eql_slice_nil w _ _ a n c n' c' Tryz.underlying80
  have HV := Lib.hid hv
  obtain ⟨x, cap, rfl, hlc, hcm, hll, hnc, hcell⟩ := hv
  clear hcell hll
  cases x with
  | none =>
    obtain rfl := hnc rfl
    obtain rfl : l = [] := List.eq_nil_of_length_eq_zero (by omega)
    go_enter Tryz.func97, Tryz.ntmps97
    go_wp2
    go_ret
    exact ⟨_, rfl, World.ownsRow_nil _ _ _ _, Below.refl _ _⟩
  | some a =>
    clear hnc
    go_enter Tryz.func97, Tryz.ntmps97
    go_wp2_with (at_builtin; refine wpList_append_X (by rfl) _ _ 80 80 rfl (fun _ _ _ => rfl) w.heap.size 83 i0 _ 5 32 Tryz.underlying80 hi hz0 hz1 hz2 rfl (by decide) _ [] 0 rfl (World.ownsRow_lit _ #[] 0 (Nat.le_refl _) (Nat.zero_le _) rfl) _ l.length _ rfl (HV.out.mono ((Below.refl _ _).alloc (Nat.le_refl _) _) (Nat.le_refl _)) (pcs_one l) (by unfold maxLen; omega) (by omega) (by simp) ?_; intro v4 w4 hown4 hb4 hl4)
    go_ret
    refine ⟨_, rfl, by simpa using hown4, ((Below.refl _ _).alloc (Nat.le_refl _) _).grown hb4 (by simp) (fun k hk => ?_)⟩
    have : some w.heap.size = some k := hk
    cases this
    exact Nat.le_refl _

theorem positions_nil (w : World) :
    Calls Tryz.prog 72 #[.pointer none] w fun e w' => e = .returned (.slice none 0 0) ∧ w = w' := by
  go_enter Tryz.func72, Tryz.ntmps72
  go_wp2
  go_ret
  exact ⟨rfl, rfl⟩
theorem positions_any (g : Nat) (v : Value) (w : World) (h : w.cell? ⟨g, 0, none⟩ = some v) :
    Calls Tryz.prog 72 #[.pointer (some ⟨g, 0, none⟩)] w fun e w' => e = .returned v ∧ w = w' := by
  go_enter Tryz.func72, Tryz.ntmps72
  go_wp2
  go_ret
  exact ⟨rfl, rfl⟩

/-- x is an index of these positions, or none, if there are none. -/
inductive Ix (w : World) : Value → Value → List Pos → Prop
  | nil : Ix w (.pointer none) (.slice none 0 0) []
  | at (g : Nat) (v : Value) (l : List Pos) (h : At w g v l) : Ix w (.pointer (some ⟨g, 0, none⟩)) v l
theorem Ix.isP {w : World} {x v : Value} {l : List Pos} (h : Ix w x v l) : IsP w v l := by
  cases h with
  | nil => exact IsP.nil w
  | «at» g v l h => exact h.isP
theorem Ix.asc {w : World} {x v : Value} {l : List Pos} (h : Ix w x v l) : Asc l := by
  cases h with
  | nil => exact Asc.nil
  | «at» g v l h => exact h.asc
theorem Ix.below {w w' : World} {x v : Value} {l : List Pos} {B : Nat} (h : Ix w x v l) (hb : Below B w w') (hB : w.heap.size ≤ B) : Ix w' x v l := by
  cases h with
  | nil => exact .nil
  | «at» g v l h => exact .at g v l (h.below hb hB)
theorem Ix.alloc {w : World} {x v : Value} {l : List Pos} (h : Ix w x v l) (o : Obj) : Ix (w.alloc o) x v l := h.below ((Below.refl _ _).alloc (Nat.le_refl _) o) (Nat.le_refl _)
theorem blk5_facts {w : World} {g : Nat} {a0 a1 a2 a3 a4 : Value} {T : TypeId} (h : Blk w g #[a0, a1, a2, a3, a4] T) :
    w.cell? ⟨g, 0, none⟩ = some a0 ∧ w.cell? ⟨g, 1, none⟩ = some a1 ∧ w.cell? ⟨g, 2, none⟩ = some a2 ∧ w.cell? ⟨g, 3, none⟩ = some a3 ∧ w.cell? ⟨g, 4, none⟩ = some a4 ∧ (∀ j, w.frozen? ⟨g, j, none⟩ = false) :=
  ⟨h.cell 0 rfl, h.cell 1 rfl, h.cell 2 rfl, h.cell 3 rfl, h.cell 4 rfl, h.free⟩
def set5 (w : World) (g : Nat) (u0 u1 u2 u3 u4 : Value) : World := ((((w.setCell ⟨g, 0, none⟩ u0).setCell ⟨g, 1, none⟩ u1).setCell ⟨g, 2, none⟩ u2).setCell ⟨g, 3, none⟩ u3).setCell ⟨g, 4, none⟩ u4
theorem blk_set5 {w : World} {g : Nat} {a0 a1 a2 a3 a4 : Value} {T : TypeId} (h : Blk w g #[a0, a1, a2, a3, a4] T) (u0 u1 u2 u3 u4 : Value) : Blk (set5 w g u0 u1 u2 u3 u4) g #[u0, u1, u2, u3, u4] T := by
  have := ((((h.set 0 u0).set 1 u1).set 2 u2).set 3 u3).set 4 u4
  simp at this
  exact this
theorem below_set5 {w0 w : World} {B g : Nat} {u0 u1 u2 u3 u4 : Value} (hb : Below B w0 w) (hB : B ≤ g) : Below B w0 (set5 w g u0 u1 u2 u3 u4) :=
  ((((hb.setCell hB _).setCell hB _).setCell hB _).setCell hB _).setCell hB _
theorem positions_ix (x v : Value) (l : List Pos) (w : World) (h : Ix w x v l) :
    Calls Tryz.prog 72 #[x] w fun e w' => e = .returned v ∧ w = w' := by
  cases h with
  | nil => exact positions_nil w
  | «at» g v l h => exact positions_any g v w (h.blk.cell 0 rfl)

/-- No error, or why. -/
def foundE (o : Option Pos) : Value := if o.isSome then .nilIface else .iface 92 (.int .i64 6)

set_option maxHeartbeats 1000000 in
theorem find_any (x v : Value) (l : List Pos) (k : Nat) (w : World) (h : Ix w x v l) (hl : l.length ≤ 1048576) :
    Calls Tryz.prog 80 #[x, .int .u64 (k : Int)] w fun e w' =>
      e = .returned (.tuple #[pval ((fnd l k).getD pzero), foundE (fnd l k)]) ∧ Below w.heap.size w w' := by
  have H := Lib.hid h
  clear h
  obtain ⟨r, hr⟩ : ∃ r, fnd l k = r := ⟨_, rfl⟩
  rw [hr]
  have HR := Lib.hid hr
  clear hr
  go_enter Tryz.func80, Tryz.ntmps80
  go_wp2_with fail
  refine (positions_ix x v l _ (H.out.alloc _)).mono ?_
  rintro e w1 ⟨rfl, rfl⟩
  go_wp2_with fail
  refine (place_any v l k _ (H.out.alloc _).isP H.out.asc hl).mono ?_
  rintro e w2 ⟨rfl, hb2⟩
  rw [HR.out]
  have HK := Lib.hid ((Blk.new w #[.int .u64 0, .int .i64 0, .int .i64 0, .int .u32 0, .bool false] 83).below hb2 (by simp))
  obtain ⟨k0, k1, k2, k3, k4, kf⟩ := blk5_facts HK.out
  have hb3 := Lib.hid (((Below.refl w.heap.size w).alloc (Nat.le_refl _) _).trans (hb2.mono (by simp)))
  have hlt : w.heap.size < w2.heap.size := by have := hb2.size; simp at this; omega
  have HP2 := Lib.hid (((H.out.alloc _).below hb2 (Nat.le_refl _)).isP)
  clear hb2
  cases r with
  | none =>
    go_wp2
    have hZ := blk_set5 HK.out (.int .u64 0) (.int .i64 0) (.int .i64 0) (.int .u32 0) (.bool false)
    have hB3 := below_set5 (u0 := (.int .u64 0)) (u1 := (.int .i64 0)) (u2 := (.int .i64 0)) (u3 := (.int .u32 0)) (u4 := (.bool false)) hb3.out (Nat.le_refl w.heap.size)
    obtain ⟨w3, hw3⟩ : ∃ w3, set5 w2 w.heap.size (.int .u64 0) (.int .i64 0) (.int .i64 0) (.int .u32 0) (.bool false) = w3 := ⟨_, rfl⟩
    rw [hw3] at hZ hB3
    unfold set5 at hw3
    rw [hw3]
    obtain ⟨z0, z1, z2, z3, z4, _⟩ := blk5_facts hZ
    exact bodyPost_ret (v := .tuple #[pval pzero, .iface 92 (.int .i64 6)]) (by simp [results, Tryz.results80, go_sem, z0, z1, z2, z3, z4, pzero]) rfl ⟨rfl, hB3⟩
  | some p =>
    have hp := (fnd_at HR.out).1
    have hi := (List.getElem?_eq_some_iff.1 hp).1
    obtain ⟨b, o, hidx, c0, c1, c2, c3, c4⟩ := indexAt_P HP2.out 80 83 Tryz.underlying80 Tryz.sizePos (psn l k) hi
    rw [pat_of hp] at c0 c1 c2 c3 c4
    clear hp hi
    go_wp2
    have hZ := blk_set5 HK.out (.int .u64 (p.key : Int)) (.int .i64 p.off) (.int .i64 p.len) (.int .u32 (p.cookie : Int)) (.bool p.gone)
    have hB3 := below_set5 (u0 := (.int .u64 (p.key : Int))) (u1 := (.int .i64 p.off)) (u2 := (.int .i64 p.len)) (u3 := (.int .u32 (p.cookie : Int))) (u4 := (.bool p.gone)) hb3.out (Nat.le_refl w.heap.size)
    obtain ⟨w3, hw3⟩ : ∃ w3, set5 w2 w.heap.size (.int .u64 (p.key : Int)) (.int .i64 p.off) (.int .i64 p.len) (.int .u32 (p.cookie : Int)) (.bool p.gone) = w3 := ⟨_, rfl⟩
    rw [hw3] at hZ hB3
    unfold set5 at hw3
    rw [hw3]
    obtain ⟨z0, z1, z2, z3, z4, _⟩ := blk5_facts hZ
    exact bodyPost_ret (v := .tuple #[pval p, .nilIface]) (by simp [results, Tryz.results80, go_sem, z0, z1, z2, z3, z4]) rfl ⟨rfl, hB3⟩

/-- The first positions from a key on. -/
def fromL (l : List Pos) (k : Nat) (most : Int) : List Pos := (l.drop (psn l k)).take most.toNat

set_option maxHeartbeats 1000000 in
theorem from_at (x v : Value) (l : List Pos) (k m : Nat) (most : Int) (w : World) (h : Ix w x v l) (hl : l.length ≤ 1048576) (hm : m ≤ l.length - psn l k)
    (hmm : most < 0 ∧ m = 0 ∨ most = (m : Int) ∨ (((l.length - psn l k : Nat) : Int) < most ∧ m = l.length - psn l k)) :
    Calls Tryz.prog 59 #[x, .int .u64 (k : Int), .int .i64 most] w fun e w' =>
      ∃ v', e = .returned v' ∧ w'.ownsRow w.heap.size 83 5 v' ((l.drop (psn l k)).take m).length (row pcells ((l.drop (psn l k)).take m)) ∧ Below w.heap.size w w' := by
  have H := Lib.hid h
  obtain ⟨N, hN⟩ : ∃ N, l.length = N := ⟨_, rfl⟩
  obtain ⟨q, hq⟩ : ∃ q, psn l k = q := ⟨_, rfl⟩
  have hqN := psn_le l k
  have hX : IsX w 5 v l.length (row pcells l) := h.isP
  rw [hN] at hqN hX
  rw [hN, hq] at hm hmm
  rw [hq] at hqN ⊢
  obtain ⟨a, cap, rfl, hlc, hcm⟩ := hX.slice
  have hsI := slice_l_X (P := Tryz.prog) hX 80 _ Tryz.underlying80 Tryz.sizePos q hqN
  have hX1 := hX.piece (lo := q) (hi := N) hqN (Nat.le_refl _)
  obtain ⟨V1, hV1⟩ : ∃ V1, sliced a q N cap 5 = V1 := ⟨_, rfl⟩
  rw [hV1] at hsI hX1
  obtain ⟨R, hR⟩ : ∃ R, N - q = R := ⟨_, rfl⟩
  have hrow : ((row pcells l).drop (q * 5)).take (R * 5) = row pcells (l.drop q) := by
    rw [row_drop pcells_len]
    exact List.take_of_length_le (by rw [length_row pcells_len, List.length_drop, hN, hR]; omega)
  rw [hR] at hX1 hm hmm
  rw [hrow] at hX1
  obtain ⟨a1, c1, rfl, hlc1, hcm1⟩ := hX1.slice
  have hlen := fun W => len_X (P := Tryz.prog) hX1 80 3 _ Tryz.underlying80 W
  have hXm := hX1.take hm
  rw [row_take pcells_len] at hXm
  have hml : ((l.drop q).take m).length = m := by rw [List.length_take, List.length_drop, hN, hR]; omega
  have HP := Lib.hid (show IsP w (.slice a1 m c1) ((l.drop q).take m) from by unfold IsP; rw [hml]; exact hXm)
  have HQ := Lib.hid hq
  have hml2 : ((l.drop q).take m).length ≤ 1048576 := by rw [hml]; omega
  have hRm : R ≤ 1048576 := by omega
  clear h hX hlc hcm hV1 hX1 hrow hN hq hR hXm hml
  generalize (l.drop q).take m = lm at *
  have tail : ∀ (w2 : World), Below w.heap.size w w2 → Calls Tryz.prog 97 #[.slice a1 m c1] w2 fun e w' => ∃ v', e = .returned v' ∧ w'.ownsRow w.heap.size 83 5 v' lm.length (row pcells lm) ∧ Below w.heap.size w w' := fun w2 hb =>
    (clone_any _ lm w2 (HP.out.mono hb (Nat.le_refl _)) hml2).mono fun e w' ⟨v', h1, h2, h3⟩ => ⟨v', h1, ownsRow_base h2 hb.size, hb.trans (h3.mono hb.size)⟩
  have TL := Lib.hid tail
  clear tail
  rcases hmm with ⟨hmm, rfl⟩ | rfl | ⟨hmm, rfl⟩
  all_goals
    go_enter Tryz.func59, Tryz.ntmps59
    go_wp2_with fail
    refine (positions_ix x _ l _ H.out).mono ?_
    rintro e w1 ⟨rfl, rfl⟩
    go_wp2_with fail
    refine (place_any _ l k _ H.out.isP H.out.asc hl).mono ?_
    rintro e w2 ⟨rfl, hb2⟩
    rw [HQ.out]
    have HB2 := Lib.hid hb2
    clear hb2
    go_wp2_with fail
    refine (TL.out _ HB2.out).mono ?_
    rintro e w3 ⟨v', rfl, h1, h2⟩
    have H1 := Lib.hid h1
    have H2 := Lib.hid h2
    clear h1 h2
    go_wp2
    go_ret
    exact ⟨_, rfl, H1.out, H2.out⟩

theorem from_any (x v : Value) (l : List Pos) (k : Nat) (most : Int) (w : World) (h : Ix w x v l) (hl : l.length ≤ 1048576) :
    Calls Tryz.prog 59 #[x, .int .u64 (k : Int), .int .i64 most] w fun e w' =>
      ∃ v', e = .returned v' ∧ w'.ownsRow w.heap.size 83 5 v' (fromL l k most).length (row pcells (fromL l k most)) ∧ Below w.heap.size w w' := by
  by_cases h1 : most < 0
  · have := from_at x v l k 0 most w h hl (Nat.zero_le _) (.inl ⟨h1, rfl⟩)
    rw [show fromL l k most = (l.drop (psn l k)).take 0 from by unfold fromL; rw [Int.toNat_of_nonpos (by omega)]]
    exact this
  · by_cases h2 : ((l.length - psn l k : Nat) : Int) < most
    · have := from_at x v l k (l.length - psn l k) most w h hl (Nat.le_refl _) (.inr (.inr ⟨h2, rfl⟩))
      rw [show fromL l k most = (l.drop (psn l k)).take (l.length - psn l k) from by
        unfold fromL
        rw [List.take_of_length_le (by rw [List.length_drop]; omega), List.take_of_length_le (by rw [List.length_drop]; omega)]]
      exact this
    · exact from_at x v l k most.toNat most w h hl (by omega) (.inr (.inl (by omega)))

/-- How many are gone. -/
def goneN (l : List Pos) : Nat := l.countP (fun p => p.gone)
theorem goneN_le (l : List Pos) : goneN l ≤ l.length := List.countP_le_length
theorem goneN_snoc {l : List Pos} {i : Nat} (h : i < l.length) : goneN (l.take (i + 1)) = goneN (l.take i) + (if (pat l i).gone then 1 else 0) := by
  rw [take_snoc h]
  unfold goneN
  rw [List.countP_append, List.countP_singleton]

set_option maxHeartbeats 1000000 in
theorem len_any (x v : Value) (l : List Pos) (w : World) (h : Ix w x v l) (hl : l.length ≤ 1048576) :
    Calls Tryz.prog 41 #[x] w fun e w' =>
      e = .returned (.tuple #[.int .i64 ((l.length : Int) - (goneN l : Int)), .int .i64 (goneN l : Int)]) ∧ Below w.heap.size w w' := by
  have H := Lib.hid h
  obtain ⟨N, hN⟩ : ∃ N, l.length = N := ⟨_, rfl⟩
  have hlen := fun W => len_P (P := Tryz.prog) h.isP hN 80 3 _ Tryz.underlying80 W
  rw [hN] at hl ⊢
  have HN := Lib.hid hN
  clear h hN
  go_enter Tryz.func41, Tryz.ntmps41
  go_wp2_with fail
  refine (positions_ix x _ l _ H.out).mono ?_
  rintro e w1 ⟨rfl, rfl⟩
  go_wp2_with fail
  go_loopw [2, 3, 9] (fun a b c wr => ∃ i n : Nat, i ≤ N ∧ n ≤ i ∧ c = .int .i64 i ∧ a = .int .i64 ((i : Int) - (n : Int)) ∧ b = .int .i64 (n : Int) ∧ Hid (goneN (l.take i) = n) ∧ Hid (Below w.heap.size w wr)) (fun _ _ c _ => N - (intOf c).toNat)
  case atStart => exact ⟨0, 0, Nat.zero_le _, Nat.le_refl _, rfl, rfl, rfl, Lib.hid rfl, Lib.hid (Below.refl _ _)⟩
  case round =>
    obtain ⟨i, n, hiN, hni, rfl, rfl, rfl, hG, hB⟩ := hrel
    by_cases hlt : i < N
    · obtain ⟨p, hp⟩ : ∃ p, pat l i = p := ⟨_, rfl⟩
      obtain ⟨b, o, hidx, c0, c1, c2, c3, c4⟩ := indexAt_P (H.out.isP.mono hB.out (Nat.le_refl _)) 80 83 Tryz.underlying80 Tryz.sizePos i (by rw [HN.out]; omega)
      have hsn := goneN_snoc (l := l) (i := i) (by rw [HN.out]; omega)
      rw [hG.out, hp] at hsn
      rw [hp] at c0 c1 c2 c3 c4
      have hB1 := hB.out.size
      obtain ⟨key, off, len, cookie, gone⟩ := p
      cases gone with
      | true =>
        have HS := Lib.hid (show goneN (l.take (i + 1)) = n + 1 from hsn)
        clear hsn hp
        go_wp2
        go_roundw
        case rel => exact ⟨i + 1, n + 1, by omega, by omega, by go_num, by congr 1; omega, by go_num, HS, Lib.hid (by first | exact hB.out.alloc hB1 _ | skip)⟩
        case measure => simp [intOf]; omega
      | false =>
        have HS := Lib.hid (show goneN (l.take (i + 1)) = n from hsn)
        clear hsn hp
        go_wp2
        go_roundw
        case rel => exact ⟨i + 1, n, by omega, by omega, by go_num, by congr 1; omega, by go_num, HS, Lib.hid (by first | exact hB.out.alloc hB1 _ | skip)⟩
        case measure => simp [intOf]; omega
    · obtain rfl : i = N := by omega
      have hG2 := hG.out
      rw [List.take_of_length_le (by rw [HN.out]; omega)] at hG2
      have HG2 := Lib.hid hG2
      clear hG2
      go_wp2
      go_ret2
      exact ⟨by rw [HG2.out]; rfl, hB.out⟩

end Go.Proofs.YtoblbipkkdiddaaGreatDoor.Q
end

section
namespace Go.Cor
open Go

section
variable {P : Program} {ops : Array Oper} {Q : Exit → Act → World → Prop} {md : Region.Mode} {S : World → Prop} {m : Nat}

/-- Whatever order: S holds behind every operation but number m. -/
def AnyE (P : Program) (md : Region.Mode) (ops : Array Oper) (Q : Exit → Act → World → Prop) (S : World → Prop) (m : Nat) : Nat → Array Bool → Act → World → Prop
  | 0, l, a, w => Region.ready md ops l = [] ∧ Q .normal a w
  | n + 1, l, a, w => (Region.ready md ops l = [] → Q .normal a w) ∧ ∀ i ∈ Region.ready md ops l, wpOp P ops Q i (fun b v => (i = m ∨ S v) ∧ AnyE P md ops Q S m n (l.setIfInBounds i true) b v) a w
theorem AnyE.any : ∀ (n : Nat) (l : Array Bool) (a : Act) (w : World), AnyE P md ops Q S m n l a w → wpAny P md ops Q n l a w
  | 0, _, _, _, h => h
  | n + 1, _, _, _, h => ⟨h.1, fun i hi => wpOp_mono (fun _ _ k => AnyE.any n _ _ _ k.2) (h.2 i hi)⟩
/-- Number m waits for number i. -/
def waitsB (md : Region.Mode) (ops : Array Oper) (m i : Nat) : Bool := match ops[m]? with | some o => o.after.any fun e => Region.binds md e && e.on == i | none => false
theorem waits_not {i : Nat} {l : Array Bool} (hw : waitsB md ops m i = true) (hi : i ∈ Region.ready md ops l) : m ∉ Region.ready md ops l := fun hm => by
  obtain ⟨h1, _⟩ := mem_ready.1 hi
  obtain ⟨_, o, ho, hall⟩ := mem_ready.1 hm
  unfold waitsB at hw
  rw [ho] at hw
  obtain ⟨e, he, h2⟩ := Array.any_eq_true'.1 hw
  rw [Bool.and_eq_true, beq_iff_eq] at h2
  have h3 := hall e he h2.1
  rw [h2.2] at h3
  rcases Nat.lt_or_ge i l.size with h | h
  · simp [h] at h1 h3; rw [h1] at h3; cases h3
  · simp [Array.getElem?_eq_none h] at h3
theorem AnyE.front {i : Nat} {o : Oper} {v : Value} (ho : ops[i]? = some o) (hsel : ∀ (j : Nat) (p : Oper) cs b, ops[j]? = some p → p.op ≠ .select cs b)
    (hQ : ∀ c a w, Q (.panic c) (a.put o.dst v) w → Q (.panic c) a w) (hw : waitsB md ops m i = true) (n : Nat) (l : Array Bool) (a : Act) (w : World)
    (free : ∀ j p, ops[j]? = some p → j ≠ i → l.getD j true = false → (∀ e ∈ p.after, Region.binds md e = true → e.on ≠ i) → o.apart ops p = true)
    (hr : i ∈ Region.ready md ops l) (hy : YieldsIf P ops S o v a) (hS : S w) (H : AnyE P md ops Q S m n (l.setIfInBounds i true) (a.put o.dst v) w) : AnyE P md ops Q S m (n + 1) l a w := by
  induction n generalizing l a w with
  | zero =>
    refine ⟨fun h => (by rw [h] at hr; cases hr), fun j hj => ?_⟩
    by_cases e : j = i
    · subst e
      exact hy.wpOp ho hS ⟨.inr hS, H⟩
    · have h := ready_mono hj e
      rw [H.1] at h
      cases h
  | succ n ih =>
    refine ⟨fun h => (by rw [h] at hr; cases hr), fun j hj => ?_⟩
    by_cases e : j = i
    · subst e
      exact hy.wpOp ho hS ⟨.inr hS, H⟩
    · have hjm : j ≠ m := fun e2 => waits_not hw hr (by rw [← e2]; exact hj)
      obtain ⟨hjl, p, hp, hall⟩ := mem_ready.1 hj
      have hno : ∀ x ∈ p.after, Region.binds md x = true → x.on ≠ i := fun x hx hb hxi => by
        have h1 := hall x hx hb
        have h0 := (mem_ready.1 hr).1
        rw [hxi] at h1
        rcases Nat.lt_or_ge i l.size with h' | h'
        · simp [h'] at h0 h1; rw [h0] at h1; cases h1
        · simp [Array.getElem?_eq_none h'] at h1
      have h2 := wpOp_putIf hp (free j p hp e hjl hno) (fun cs b => hsel i o cs b ho) (fun cs b => hsel j p cs b hp) hQ hy (H.2 j (ready_mono hj e))
      refine wpOp_mono (fun b u k => ?_) h2
      obtain ⟨ky, kS, kE⟩ := k
      have kS' : S u := kS.resolve_left hjm
      refine ⟨.inr kS', ih (l.setIfInBounds j true) b u (fun x q hq hxi hun hn => ?_) (ready_mono hr (Ne.symm e)) ky kS' ?_⟩
      · refine free x q hq hxi ?_ hn
        by_cases hjx : j = x
        · subst hjx; exact hjl
        · rw [getD_set_ne true hjx] at hun; exact hun
      · rw [Array.setIfInBounds_comm _ _ e]
        exact kE
/-- Take number i first. -/
theorem AnyE.take {i : Nat} {o : Oper} {v : Value} {n : Nat} {l : Array Bool} {a : Act} {w : World} (hi : ops[i]? = some o) (hs : Region.noSelect ops = true) (hw : waitsB md ops m i = true) (hf : Region.free md ops l i = true) (hr : (Region.ready md ops l).contains i = true)
    (hQ : ∀ c a w, Q (.panic c) (a.put o.dst v) w → Q (.panic c) a w) (hy : YieldsIf P ops S o v a) (hS : S w) (h : AnyE P md ops Q S m n (l.setIfInBounds i true) (a.put o.dst v) w) : AnyE P md ops Q S m (n + 1) l a w :=
  AnyE.front hi (Region.noSelect_spec hs) hQ hw n l a w (Region.free_spec hi hf) (by simpa using hr) hy hS h
/-- Each of these comes up next. -/
def AllE (P : Program) (md : Region.Mode) (ops : Array Oper) (Q : Exit → Act → World → Prop) (S : World → Prop) (m n : Nat) (l : Array Bool) (a : Act) (w : World) (rs : List Nat) : Prop :=
  ∀ i ∈ rs, wpOp P ops Q i (fun b v => (i = m ∨ S v) ∧ AnyE P md ops Q S m n (l.setIfInBounds i true) b v) a w
theorem AllE.nil {n : Nat} {l : Array Bool} {a : Act} {w : World} : AllE P md ops Q S m n l a w [] := fun _ h => by cases h
theorem AllE.cons {n : Nat} {l : Array Bool} {a : Act} {w : World} {i : Nat} {o : Oper} {rs : List Nat} (ho : ops[i]? = some o)
    (h : ∀ K : Act → World → Prop, Shut (∀ a w, S w → (S w → AnyE P md ops Q S m n (l.setIfInBounds i true) a w) → K a w) → if Region.wanted o (yielded ops a.tmps) = true then Oper.wp P o a w K Q else K (a.put o.dst undef) w)
    (hs : AllE P md ops Q S m n l a w rs) : AllE P md ops Q S m n l a w (i :: rs) := fun j hj => by
  rcases List.mem_cons.1 hj with rfl | hj
  · exact wpOp_step ho (fun K hK => h K (fun a w k1 k2 => hK a w ⟨.inr k1, k2 k1⟩))
  · exact hs j hj
theorem AllE.last {n : Nat} {l : Array Bool} {a : Act} {w : World} {o : Oper} (ho : ops[m]? = some o)
    (h : ∀ K : Act → World → Prop, Shut (∀ a w, AnyE P md ops Q S m n (l.setIfInBounds m true) a w → K a w) → if Region.wanted o (yielded ops a.tmps) = true then Oper.wp P o a w K Q else K (a.put o.dst undef) w) : AllE P md ops Q S m n l a w [m] := fun j hj => by
  obtain rfl : j = m := by simpa using hj
  exact wpOp_step ho (fun K hK => h K (fun a w k => hK a w ⟨.inl rfl, k⟩))
theorem AnyE.next {rs : List Nat} {n : Nat} {l : Array Bool} {a : Act} {w : World} (hr : Region.ready md ops l = rs) (hne : rs ≠ []) (h : AllE P md ops Q S m n l a w rs) : AnyE P md ops Q S m (n + 1) l a w :=
  ⟨fun h0 => absurd (hr ▸ h0) hne, hr ▸ h⟩
theorem AnyE.done {l : Array Bool} {a : Act} {w : World} (hr : Region.ready md ops l = []) (h : Q .normal a w) : ∀ n, AnyE P md ops Q S m n l a w
  | 0 => ⟨hr, h⟩
  | _ + 1 => ⟨fun _ => h, by rw [hr]; simp⟩
theorem AnyE.start {id : Nat} {a : Act} {w : World} (m : Nat) (hm : P.follows .mixedOrders = true) (hS : S w.drew) (h : S w.drew → AnyE P .any ops Q S m ops.size (Array.replicate ops.size false) a w.drew) : (Code.region id ops true).wp P Q a w :=
  wp_region_any hm (AnyE.any _ _ _ _ (h hS))
end
end Go.Cor
end

section
namespace Go.Proofs.YtoblbipkkdiddaaGreatDoor.Q
open Go.RowKit Go.Cor

set_option maxHeartbeats 1000000 in
/-- Five cells at an address set. -/
def set5o (w : World) (g o : Nat) (p : Pos) : World := ((((w.setCell ⟨g, o, none⟩ (.int .u64 (p.key : Int))).setCell ⟨g, o + 1, none⟩ (.int .i64 p.off)).setCell ⟨g, o + 2, none⟩ (.int .i64 p.len)).setCell ⟨g, o + 3, none⟩ (.int .u32 (p.cookie : Int))).setCell ⟨g, o + 4, none⟩ (.bool p.gone)
theorem row_set5 {l : List Pos} {i : Nat} (h : i < l.length) (p : Pos) :
    (((((row pcells l).set (i * 5) (.int .u64 (p.key : Int))).set (i * 5 + 1) (.int .i64 p.off)).set (i * 5 + 2) (.int .i64 p.len)).set (i * 5 + 3) (.int .u32 (p.cookie : Int))).set (i * 5 + 4) (.bool p.gone) = row pcells (l.set i p) := by
  induction l generalizing i with
  | nil => simp at h
  | cons q r ih =>
    cases i with
    | zero => rfl
    | succ i =>
      have e := ih (i := i) (by simpa using h)
      rw [List.set_cons_succ, row_cons, row_cons, ← e, show (i + 1) * 5 = i * 5 + 1 + 1 + 1 + 1 + 1 from by omega]
      rfl
theorem Kept.set5o {S : Nat → Prop} {a w : World} {g o : Nat} {p : Pos} (h : Kept S a w) (hg : S g ∨ a.heap.size ≤ g) : Kept S a (set5o w g o p) :=
  ((((h.setCell hg _).setCell hg _).setCell hg _).setCell hg _).setCell hg _
theorem At.set {w : World} {g gv i : Nat} {v : Value} {l : List Pos} {p : Pos} (h : At w g v l) (hi : i < l.length) (hgv : v.ownBlock = some gv) (hp : Asc (l.set i p)) : At (set5o w gv (i * 5) p) g v (l.set i p) := by
  have hne : gv ≠ g := fun e => h.apart (e ▸ hgv)
  refine ⟨((((h.blk.other (by exact hne) _).other (by exact hne) _).other (by exact hne) _).other (by exact hne) _).other (by exact hne) _, ?_, h.apart, hp⟩
  obtain ⟨x, c, rfl, _⟩ := ownsRow_slice h.row
  have hx : ∃ ad, x = some ad := by
    cases x with
    | none => simp [Value.ownBlock] at hgv
    | some ad => exact ⟨ad, rfl⟩
  obtain ⟨ad, rfl⟩ := hx
  have st : ∀ {W : World} {xs : List Value} (j : Nat) (u : Value), W.ownsRow 0 83 5 (.slice (some ad) l.length c) l.length xs → (W.setCell ⟨gv, j, none⟩ u).ownsRow 0 83 5 (.slice (some ad) l.length c) l.length (xs.set j u) := by
    intro W xs j u hW
    obtain ⟨g', hg', _, _, _, hs⟩ := indexAt_own (P := Tryz.prog) hW 80 83 Tryz.underlying80 Tryz.sizePos i hi
    have : g' = gv := by
      rw [hgv] at hg'
      exact (Option.some.inj hg').symm
    subst this
    exact hs j u
  rw [List.length_set, ← row_set5 hi p]
  exact st _ _ (st _ _ (st _ _ (st _ _ (st _ _ h.row))))

set_option maxRecDepth 100000 in
theorem put_any (g : Nat) (v : Value) (l : List Pos) (p : Pos) (w : World) (h : At w g v l) (hl : l.length < 4096) :
    Calls Tryz.prog 84 #[.pointer (some ⟨g, 0, none⟩), pval p] w fun e w' =>
      e = .returned .nilIface ∧ ∃ v', At w' g v' (put l p) ∧ Kept (own g v) w w' ∧ ∀ k, own g v' k → own g v k ∨ w.heap.size ≤ k := by
  have H := Lib.hid h
  have hgw := h.blk.lt
  have HA := Lib.hid (h.below ((Below.refl w.heap.size w).alloc (Nat.le_refl _) (.cells #[.int .u64 (p.key : Int), .int .i64 p.off, .int .i64 p.len, .int .u32 (p.cookie : Int), .bool p.gone] 83)) (Nat.le_refl _))
  have HF := Lib.hid (Blk.new w #[.int .u64 (p.key : Int), .int .i64 p.off, .int .i64 p.len, .int .u32 (p.cookie : Int), .bool p.gone] 83)
  have hb1 : Below w.heap.size w (w.alloc (.cells #[.int .u64 (p.key : Int), .int .i64 p.off, .int .i64 p.len, .int .u32 (p.cookie : Int), .bool p.gone] 83)) := (Below.refl w.heap.size w).alloc (Nat.le_refl _) _
  obtain ⟨w1, hw1⟩ : ∃ w1, w.alloc (.cells #[.int .u64 (p.key : Int), .int .i64 p.off, .int .i64 p.len, .int .u32 (p.cookie : Int), .bool p.gone] 83) = w1 := ⟨_, rfl⟩
  have hs1 : w1.heap.size = w.heap.size + 1 := by rw [← hw1]; simp
  rw [hw1] at HA HF hb1
  have k0 : w1.cell? ⟨g, 0, none⟩ = some v := HA.out.blk.cell 0 rfl
  obtain ⟨q0, _⟩ := blk5_facts HF.out
  have HB1 := Lib.hid hb1
  clear h hb1
  go_enter Tryz.func84, Tryz.ntmps84
  go_upto_region 3 with fail
  clear hw1
  have S0 : w1.drew.cell? ⟨g, 0, none⟩ = some v ∧ w1.drew.cell? ⟨w.heap.size, 0, none⟩ = some (.int .u64 (p.key : Int)) := ⟨k0, q0⟩
  have S2 : ∀ wx, Below w1.drew.heap.size w1.drew wx → wx.cell? ⟨g, 0, none⟩ = some v ∧ wx.cell? ⟨w.heap.size, 0, none⟩ = some (.int .u64 (p.key : Int)) := fun wx hb =>
    ⟨(hb.cell (cell_lt S0.1)).trans S0.1, (hb.cell (cell_lt S0.2)).trans S0.2⟩
  obtain ⟨r, hr⟩ : ∃ r, (fnd l p.key).isSome = r := ⟨_, rfl⟩
  have hpl := place_any v l p.key w1.drew HA.out.drew.isP HA.out.asc (by omega)
  rw [hr] at hpl
  have HPL := Lib.hid hpl
  have HR := Lib.hid hr
  clear hpl hr
  go_region_held3 (fun wx => wx.cell? ⟨g, 0, none⟩ = some v ∧ wx.cell? ⟨w.heap.size, 0, none⟩ = some (.int .u64 (p.key : Int))) (first | exact S0 | exact S2 _ (by assumption)) (first | (go_at_call 96; refine HPL.out.mono ?_; rintro e w2 ⟨rfl, hb2⟩))
  clear S0 S2 HPL
  have HA2 := Lib.hid (HA.out.drew.below hb2 (Nat.le_refl _))
  have HF2 := Lib.hid (HF.out.drew.below hb2 (by have := HF.out.lt; exact this))
  have HB2 := Lib.hid (HB1.out.drew.trans (hb2.mono (by show w.heap.size ≤ w1.heap.size; omega)))
  have hs2 : w.heap.size < w2.heap.size := by have := hb2.size; have h9 : w1.drew.heap.size = w1.heap.size := rfl; omega
  clear hb2 k0 q0 hs1
  have k0 : w2.cell? ⟨g, 0, none⟩ = some v := HA2.out.blk.cell 0 rfl
  obtain ⟨q0, q1, q2, q3, q4, _⟩ := blk5_facts HF2.out
  obtain ⟨i, hi⟩ : ∃ i, psn l p.key = i := ⟨_, rfl⟩
  have hil := psn_le l p.key
  rw [hi] at hil ⊢
  have HI := Lib.hid hi
  clear hi
  cases r with
  | true =>
    obtain ⟨p0, hp0⟩ := Option.isSome_iff_exists.1 HR.out
    have hlt : i < l.length := by
      have := (List.getElem?_eq_some_iff.1 (fnd_at hp0).1).1
      rw [HI.out] at this
      exact this
    have HP := Lib.hid (show put l p = l.set i p from by rw [put_there hp0, HI.out])
    clear hp0
    obtain ⟨gv, hgv, hidx, hc, hf, hst⟩ := indexAt_own (P := Tryz.prog) HA2.out.row 80 83 Tryz.underlying80 Tryz.sizePos i hlt
    have hne : gv ≠ g := fun e => HA2.out.apart (e ▸ hgv)
    obtain ⟨c0, c1, c2, c3, c4⟩ := pcells_at hlt hc
    have HV := Lib.hid hgv
    have HIX := Lib.hid hidx
    clear hc hst hgv
    go_upto_region 5 with fail
    go_still_tail 7, (by kernel_rfl)
    change wpList _ _ _ _ _ w2.drew
    go_wp2
    go_ret
    have hasc : Asc (l.set i p) := by rw [← HP.out]; exact put_asc HA2.out.asc p
    refine ⟨rfl, v, ?_, ?_, fun k hk => .inl hk⟩
    · rw [HP.out]
      exact (HA2.out.set hlt HV.out hasc).drew
    · exact (Kept.set5o (Kept.of_below HB2.out (Nat.le_refl _)) (.inl (.inr HV.out))).drew
  | false =>
    have hno : fnd l p.key = none := Option.not_isSome_iff_eq_none.1 (by rw [HR.out]; decide)
    have HP := Lib.hid (show put l p = l.take i ++ p :: l.drop i from by rw [put_new hno, HI.out])
    have HL := Lib.hid (length_put_new hno)
    have hlen := fun W => len_X (P := Tryz.prog) HA2.out.isP 80 3 _ Tryz.underlying80 W
    have hl' : ¬ ((4096 : Int) ≤ (l.length : Int)) := by omega
    clear hno
    obtain ⟨w3, hw3⟩ : ∃ w3, w2.drew.alloc (.cells #[.int .u64 (p.key : Int), .int .i64 p.off, .int .i64 p.len, .int .u32 (p.cookie : Int), .bool p.gone] 83) = w3 := ⟨_, rfl⟩
    have HA3 := Lib.hid (show At w3 g v l from by rw [← hw3]; exact HA2.out.drew.below ((Below.refl _ _).alloc (Nat.le_refl _) _) (Nat.le_refl _))
    have HF3 := Lib.hid (show w3.heap[w2.heap.size]? = some (.cells #[.int .u64 (p.key : Int), .int .i64 p.off, .int .i64 p.len, .int .u32 (p.cookie : Int), .bool p.gone] 83 (0, 0)) from by rw [← hw3]; exact Blk.new w2.drew _ _)
    have HB3 := Lib.hid (show Below w.heap.size w w3 from by rw [← hw3]; exact HB2.out.drew.alloc (by show w.heap.size ≤ w2.heap.size; omega) _)
    have hs3 : w3.heap.size = w2.heap.size + 1 := by rw [← hw3]; simp
    have k3 : w3.cell? ⟨g, 0, none⟩ = some v := HA3.out.blk.cell 0 rfl
    have hav : v.ownBlock ≠ some w2.heap.size := fun e => by have := HA2.out.lt _ (.inr e); omega
    have HIN := Lib.hid (tins_any v l p w2.heap.size i w3 HA3.out.row hil (by omega) hav HF3.out)
    have S0 : w2.drew.cell? ⟨g, 0, none⟩ = some v ∧ w2.drew.cell? ⟨w.heap.size, 0, none⟩ = some (.int .u64 (p.key : Int)) ∧ w2.drew.cell? ⟨w.heap.size, 1, none⟩ = some (.int .i64 p.off) ∧ w2.drew.cell? ⟨w.heap.size, 2, none⟩ = some (.int .i64 p.len) ∧ w2.drew.cell? ⟨w.heap.size, 3, none⟩ = some (.int .u32 (p.cookie : Int)) ∧ w2.drew.cell? ⟨w.heap.size, 4, none⟩ = some (.bool p.gone) := ⟨k0, q0, q1, q2, q3, q4⟩
    have S1 : w3.cell? ⟨g, 0, none⟩ = some v ∧ w3.cell? ⟨w.heap.size, 0, none⟩ = some (.int .u64 (p.key : Int)) ∧ w3.cell? ⟨w.heap.size, 1, none⟩ = some (.int .i64 p.off) ∧ w3.cell? ⟨w.heap.size, 2, none⟩ = some (.int .i64 p.len) ∧ w3.cell? ⟨w.heap.size, 3, none⟩ = some (.int .u32 (p.cookie : Int)) ∧ w3.cell? ⟨w.heap.size, 4, none⟩ = some (.bool p.gone) := by
      have cl : ∀ (q : Addr) (u : Value), q.block < w2.heap.size → w2.cell? q = some u → w3.cell? q = some u := fun q u hq h => by rw [← hw3]; exact (Below.cell (B := w2.heap.size) ((Below.refl _ w2.drew).alloc (Nat.le_refl _) _) hq).trans h
      exact ⟨k3, cl _ _ hs2 q0, cl _ _ hs2 q1, cl _ _ hs2 q2, cl _ _ hs2 q3, cl _ _ hs2 q4⟩
    go_upto_region 9 with fail
    have F : ∀ wx, Kept (fun k => v.ownBlock = some k) w3 wx → wx.cell? ⟨g, 0, none⟩ = some v ∧ wx.cell? ⟨w.heap.size, 0, none⟩ = some (.int .u64 (p.key : Int)) ∧ wx.cell? ⟨w.heap.size, 1, none⟩ = some (.int .i64 p.off) ∧ wx.cell? ⟨w.heap.size, 2, none⟩ = some (.int .i64 p.len) ∧ wx.cell? ⟨w.heap.size, 3, none⟩ = some (.int .u32 (p.cookie : Int)) ∧ wx.cell? ⟨w.heap.size, 4, none⟩ = some (.bool p.gone) := fun wx hk =>
      have cl : ∀ (q : Addr) (u : Value), (q.block = g ∨ q.block = w.heap.size) → w3.cell? q = some u → wx.cell? q = some u := fun q u hq h => hk.cell h (fun e => by
        rcases hq with hq | hq
        · exact HA3.out.apart (hq ▸ e)
        · have h9 := H.out.lt _ (.inr e)
          rw [hq] at h9
          exact Nat.lt_irrefl _ h9)
      ⟨cl _ _ (.inl rfl) S1.1, cl _ _ (.inr rfl) S1.2.1, cl _ _ (.inr rfl) S1.2.2.1, cl _ _ (.inr rfl) S1.2.2.2.1, cl _ _ (.inr rfl) S1.2.2.2.2.1, cl _ _ (.inr rfl) S1.2.2.2.2.2⟩
    refine AnyE.start (S := (fun wx => wx.cell? ⟨g, 0, none⟩ = some v ∧ wx.cell? ⟨w.heap.size, 0, none⟩ = some (.int .u64 (p.key : Int)) ∧ wx.cell? ⟨w.heap.size, 1, none⟩ = some (.int .i64 p.off) ∧ wx.cell? ⟨w.heap.size, 2, none⟩ = some (.int .i64 p.len) ∧ wx.cell? ⟨w.heap.size, 3, none⟩ = some (.int .u32 (p.cookie : Int)) ∧ wx.cell? ⟨w.heap.size, 4, none⟩ = some (.bool p.gone))) 11 (by kernel_rfl) S0 (fun hHeld => ?_)
    refine AnyE.take (i := 0) (v := ?_) rfl (by kernel_rfl) (by kernel_rfl) (by kernel_rfl) (by kernel_rfl) (fun _ _ _ h => h) (Or.inl ⟨by rfl, ?_⟩) (by assumption) ?_
    rotate_left 1
    · intro w hSw
      (try dsimp only at hSw)
      go_simp
      all_goals (with_reducible rfl)
    try simp only [Act.put, List.getElem_toArray, List.getElem_cons_zero, List.getElem_cons_succ, List.setIfInBounds_toArray, List.set_cons_zero, List.set_cons_succ]
    refine AnyE.take (i := 1) (v := ?_) rfl (by kernel_rfl) (by kernel_rfl) (by kernel_rfl) (by kernel_rfl) (fun _ _ _ h => h) (Or.inl ⟨by rfl, ?_⟩) (by assumption) ?_
    rotate_left 1
    · intro w hSw
      (try dsimp only at hSw)
      go_simp
      all_goals (with_reducible rfl)
    try simp only [Act.put, List.getElem_toArray, List.getElem_cons_zero, List.getElem_cons_succ, List.setIfInBounds_toArray, List.set_cons_zero, List.set_cons_succ]
    refine AnyE.take (i := 2) (v := ?_) rfl (by kernel_rfl) (by kernel_rfl) (by kernel_rfl) (by kernel_rfl) (fun _ _ _ h => h) (Or.inl ⟨by rfl, ?_⟩) (by assumption) ?_
    rotate_left 1
    · intro w hSw
      (try dsimp only at hSw)
      go_simp
      all_goals (with_reducible rfl)
    try simp only [Act.put, List.getElem_toArray, List.getElem_cons_zero, List.getElem_cons_succ, List.setIfInBounds_toArray, List.set_cons_zero, List.set_cons_succ]
    refine AnyE.take (i := 3) (v := ?_) rfl (by kernel_rfl) (by kernel_rfl) (by kernel_rfl) (by kernel_rfl) (fun _ _ _ h => h) (Or.inl ⟨by rfl, ?_⟩) (by assumption) ?_
    rotate_left 1
    · intro w hSw
      (try dsimp only at hSw)
      go_simp
      all_goals (with_reducible rfl)
    try simp only [Act.put, List.getElem_toArray, List.getElem_cons_zero, List.getElem_cons_succ, List.setIfInBounds_toArray, List.set_cons_zero, List.set_cons_succ]
    refine AnyE.take (i := 4) (v := ?_) rfl (by kernel_rfl) (by kernel_rfl) (by kernel_rfl) (by kernel_rfl) (fun _ _ _ h => h) (Or.inl ⟨by rfl, ?_⟩) (by assumption) ?_
    rotate_left 1
    · intro w hSw
      (try dsimp only at hSw)
      go_simp
      all_goals (with_reducible rfl)
    try simp only [Act.put, List.getElem_toArray, List.getElem_cons_zero, List.getElem_cons_succ, List.setIfInBounds_toArray, List.set_cons_zero, List.set_cons_succ]
    refine AnyE.take (i := 5) (v := ?_) rfl (by kernel_rfl) (by kernel_rfl) (by kernel_rfl) (by kernel_rfl) (fun _ _ _ h => h) (Or.inl ⟨by rfl, ?_⟩) (by assumption) ?_
    rotate_left 1
    · intro w hSw
      (try dsimp only at hSw)
      go_simp
      all_goals (with_reducible rfl)
    try simp only [Act.put, List.getElem_toArray, List.getElem_cons_zero, List.getElem_cons_succ, List.setIfInBounds_toArray, List.set_cons_zero, List.set_cons_succ]
    refine AnyE.take (i := 6) (v := ?_) rfl (by kernel_rfl) (by kernel_rfl) (by kernel_rfl) (by kernel_rfl) (fun _ _ _ h => h) (Or.inl ⟨by rfl, ?_⟩) (by assumption) ?_
    rotate_left 1
    · intro w hSw
      (try dsimp only at hSw)
      go_simp
      all_goals (with_reducible rfl)
    try simp only [Act.put, List.getElem_toArray, List.getElem_cons_zero, List.getElem_cons_succ, List.setIfInBounds_toArray, List.set_cons_zero, List.set_cons_succ]
    refine AnyE.next (rs := [7]) (by kernel_rfl) (by simp) ?_
    refine AllE.cons rfl (fun K hK => ?_) AllE.nil
    go_simp
    refine hK.out _ _ (by first | exact S1 | (rw [hw3]; exact S1)) (fun hHeld => ?_)
    clear hK K
    try simp only [Act.put, List.getElem_toArray, List.getElem_cons_zero, List.getElem_cons_succ, List.setIfInBounds_toArray, List.set_cons_zero, List.set_cons_succ]
    refine AnyE.next (rs := [8]) (by kernel_rfl) (by simp) ?_
    refine AllE.cons rfl (fun K hK => ?_) AllE.nil
    go_simp
    refine HIN.out.mono ?_
    rintro e w4 ⟨v', rfl, h1, h2, h3⟩
    obtain ⟨x4, c4, rfl, _, _⟩ := ownsRow_slice h1
    have K4 : w4.cell? ⟨g, 0, none⟩ = some v := h2.cell k3 (fun e => HA3.out.apart e)
    have Z4 : w4.frozen? ⟨g, 0, none⟩ = false := (h2.frozen (p := ⟨g, 0, none⟩) HA3.out.blk.lt (fun e => HA3.out.apart e)).trans (HA3.out.blk.free 0)
    refine hK.out _ _ (F _ h2) (fun hHeld => ?_)
    clear hK K
    try simp only [Act.put, List.getElem_toArray, List.getElem_cons_zero, List.getElem_cons_succ, List.setIfInBounds_toArray, List.set_cons_zero, List.set_cons_succ]
    refine AnyE.next (rs := [9]) (by kernel_rfl) (by simp) ?_
    refine AllE.cons rfl (fun K hK => ?_) AllE.nil
    go_simp
    refine hK.out _ _ (F _ h2) (fun hHeld => ?_)
    clear hK K
    try simp only [Act.put, List.getElem_toArray, List.getElem_cons_zero, List.getElem_cons_succ, List.setIfInBounds_toArray, List.set_cons_zero, List.set_cons_succ]
    refine AnyE.next (rs := [10]) (by kernel_rfl) (by simp) ?_
    refine AllE.cons rfl (fun K hK => ?_) AllE.nil
    go_simp
    refine hK.out _ _ (F _ h2) (fun hHeld => ?_)
    clear hK K
    try simp only [Act.put, List.getElem_toArray, List.getElem_cons_zero, List.getElem_cons_succ, List.setIfInBounds_toArray, List.set_cons_zero, List.set_cons_succ]
    refine AnyE.next (rs := [11]) (by kernel_rfl) (by simp) ?_
    refine AllE.last rfl (fun K hK => ?_)
    go_simp
    refine hK.out _ _ ?_
    clear hK K
    try simp only [Act.put, List.getElem_toArray, List.getElem_cons_zero, List.getElem_cons_succ, List.setIfInBounds_toArray, List.set_cons_zero, List.set_cons_succ]
    refine AnyE.done (by kernel_rfl) ?_ _
    go_wp2
    go_ret
    have hapart : (Value.slice x4 (l.length + 1) c4).ownBlock ≠ some g := by
      rcases h3 with h3 | h3
      · rw [h3]
        exact HA3.out.apart
      · rw [h3]
        intro e
        have := Option.some.inj e
        omega
    have hk5 : Kept (fun k => k = g) w4 (w4.setCell ⟨g, 0, none⟩ (.slice x4 (l.length + 1) c4)) := Kept.setCell (S := fun k => k = g) (Kept.refl _ w4) (.inl rfl) _
    refine ⟨rfl, .slice x4 (l.length + 1) c4, ⟨?_, ?_, hapart, put_asc HA2.out.asc p⟩, ?_, ?_⟩
    · have hb := (HA3.out.blk.kept h2 (fun e => HA3.out.apart e)).set 0 (.slice x4 (l.length + 1) c4)
      simpa using hb
    · rw [HL.out, HP.out]
      exact ownsRow_kept h1 hk5 (fun k hk e => hapart (e ▸ hk))
    · exact ((Kept.of_below HB3.out (Nat.le_refl _)).trans h2 (fun j hj _ => .inr hj)).setCell (.inl (.inl rfl)) _
    · rintro k (rfl | hk)
      · exact .inl (.inl rfl)
      · rcases h3 with h3 | h3
        · exact .inl (.inr (h3 ▸ hk))
        · rw [h3] at hk
          have := Option.some.inj hk
          exact .inr (by omega)

/-- An index that was made behind B. -/
def Own (w : World) (B g : Nat) (l : List Pos) : Prop := ∃ v, At w g v l ∧ ∀ k, own g v k → B ≤ k
theorem Own.below {w w' : World} {B C g : Nat} {l : List Pos} (h : Own w B g l) (hb : Below C w w') (hB : w.heap.size ≤ C) : Own w' B g l := by
  obtain ⟨v, h1, h2⟩ := h
  exact ⟨v, h1.below hb hB, h2⟩
theorem Own.ix {w : World} {B g : Nat} {l : List Pos} (h : Own w B g l) : ∃ v, Ix w (.pointer (some ⟨g, 0, none⟩)) v l := by
  obtain ⟨v, h1, _⟩ := h
  exact ⟨v, .at g v l h1⟩
theorem Own.mono {w : World} {B C g : Nat} {l : List Pos} (h : Own w B g l) (hC : C ≤ B) : Own w C g l := by
  obtain ⟨v, h1, h2⟩ := h
  exact ⟨v, h1, fun k hk => Nat.le_trans hC (h2 k hk)⟩
theorem Own.asc {w : World} {B g : Nat} {l : List Pos} (h : Own w B g l) : Asc l := by
  obtain ⟨v, h1, _⟩ := h
  exact h1.asc
theorem put_own (B g : Nat) (l : List Pos) (p : Pos) (w : World) (h : Own w B g l) (hl : l.length < 4096) (hB : B ≤ w.heap.size) :
    Calls Tryz.prog 84 #[.pointer (some ⟨g, 0, none⟩), pval p] w fun e w' => e = .returned .nilIface ∧ Own w' B g (put l p) ∧ Below B w w' := by
  obtain ⟨v, h1, h2⟩ := h
  refine (put_any g v l p w h1 hl).mono ?_
  rintro e w' ⟨he, v', k1, k2, k3⟩
  refine ⟨he, ⟨v', k1, fun k hk => ?_⟩, k2.below hB (fun k hk hs => ?_)⟩
  · rcases k3 k hk with h | h
    · exact h2 k h
    · omega
  · have := h2 k hs
    omega

/-- New of so many positions. -/
theorem new_any (v : Value) (ps : List Pos) (w : World) (hv : IsP w v ps) (hl : ps.length ≤ 4000) :
    Calls Tryz.prog 58 #[v] w fun e w' =>
      ∃ g, e = .returned (.pointer (some ⟨g, 0, none⟩)) ∧ Own w' w.heap.size g (puts [] ps) ∧ Below w.heap.size w w' := by
  obtain ⟨N, hN⟩ : ∃ N, ps.length = N := ⟨_, rfl⟩
  have hlen := fun W => len_P (P := Tryz.prog) hv hN 80 3 _ Tryz.underlying80 W
  have HV := Lib.hid hv
  rw [hN] at hl
  have HN := Lib.hid hN
  clear hv hN
  go_enter Tryz.func58, Tryz.ntmps58
  go_wp2
  go_loopw [10] (fun c wr => ∃ i : Nat, i ≤ N ∧ c = .int .i64 i ∧ Hid (Below w.heap.size w wr) ∧ Hid (Own wr w.heap.size w.heap.size (puts [] (ps.take i)))) (fun c _ => N - (intOf c).toNat)
  case atStart => exact ⟨0, Nat.zero_le _, rfl, Lib.hid ((Below.refl _ _).alloc (Nat.le_refl _) _), Lib.hid ⟨_, ⟨Blk.new w _ _, World.ownsRow_nil _ _ _ _, by simp [Value.ownBlock], Asc.nil⟩, by
    rintro k (rfl | e)
    · exact Nat.le_refl _
    · simp [Value.ownBlock] at e⟩⟩
  case round =>
    obtain ⟨i, hiN, rfl, HB, HO⟩ := hrel
    by_cases hlt : i < N
    · obtain ⟨p, hp⟩ : ∃ p, pat ps i = p := ⟨_, rfl⟩
      obtain ⟨b, o, hidx, c0, c1, c2, c3, c4⟩ := indexAt_P (HV.out.mono HB.out (Nat.le_refl _)) 80 83 Tryz.underlying80 Tryz.sizePos i (by rw [HN.out]; omega)
      rw [hp] at c0 c1 c2 c3 c4
      have HT := Lib.hid (show puts [] (ps.take (i + 1)) = put (puts [] (ps.take i)) p from by rw [take_snoc (by rw [HN.out]; exact hlt), puts_snoc, hp])
      have hsz := HB.out.size
      have HL := Lib.hid (show (puts [] (ps.take i)).length < 4096 from by
        have := length_puts [] (ps.take i)
        rw [List.length_take] at this
        simp at this
        omega)
      have HC := Lib.hid (show PCells wr b o p from ⟨c0, c1, c2, c3, c4⟩)
      clear hp
      go_wp2_with fail
      refine (put_own w.heap.size w.heap.size _ p _ (HO.out.below ((Below.refl _ _).alloc (Nat.le_refl _) _) (Nat.le_refl _)) HL.out (by simp; omega)).mono ?_
      rintro e w2 ⟨rfl, h1, h2⟩
      rw [← HT.out] at h1
      have H1 := Lib.hid h1
      have H2 := Lib.hid ((HB.out.alloc hsz _).trans h2)
      clear h1 h2 c0 c1 c2 c3 c4 hidx
      go_wp2
      go_roundw
      case rel => exact ⟨i + 1, by omega, by go_num, H2, H1⟩
      case measure => simp [intOf]; omega
    · obtain rfl : i = N := by omega
      have h9 := HO.out
      rw [List.take_of_length_le (by rw [HN.out]; omega)] at h9
      have H9 := Lib.hid h9
      clear h9
      go_wp2
      go_ret
      exact ⟨_, rfl, H9.out, HB.out⟩

end Go.Proofs.YtoblbipkkdiddaaGreatDoor.Q
end

section
namespace Go.Proofs.YtoblbipkkdiddaaGreatDoor
open Go.RowKit Go.Cor

set_option maxHeartbeats 400000 in
theorem same_yes (v1 v2 : Value) (l : List UInt8) (w : World) (hv1 : IsB w v1 l) (hv2 : IsB w v2 l) (hl : l.length ≤ 1099511627776) :
    Calls Tryz.prog 35 #[v1, v2] w fun e w' => e = .returned (.bool true) ∧ ∃ n, w' = w.drewN n := by
  obtain ⟨x1, cap1, rfl, hlc1, hcm1, _, hcell1⟩ := hv1
  obtain ⟨x2, cap2, rfl, hlc2, hcm2, _, hcell2⟩ := hv2
  have HC : Hid (∀ i, i < l.length → ∃ b1 off1 b2 off2, x1 = some ⟨b1, off1, none⟩ ∧ x2 = some ⟨b2, off2, none⟩ ∧ ∃ y : UInt8, w.cell? ⟨b1, off1 + i, none⟩ = some (bv y) ∧ w.cell? ⟨b2, off2 + i, none⟩ = some (bv y)) := by
    intro i hi
    rcases hcell1 with hE | ⟨b1, off1, rfl, hc1⟩
    · omega
    · rcases hcell2 with hE | ⟨b2, off2, rfl, hc2⟩
      · omega
      · exact ⟨b1, off1, b2, off2, rfl, rfl, _, hc1 i hi, hc2 i hi⟩
  clear hcell1 hcell2
  go_enter Tryz.func35, Tryz.ntmps35
  go_wp2
  go_loopw [5] (fun c wr => ∃ k : Nat, k ≤ l.length ∧ c = .int .i64 k ∧ ∃ n, wr = w.drewN n) (fun c _ => l.length - (intOf c).toNat)
  case atStart => exact ⟨0, by omega, rfl, 0, rfl⟩
  case round =>
    obtain ⟨k, hk, rfl, n, rfl⟩ := hrel
    by_cases hlt : k < l.length
    · obtain ⟨b1, off1, b2, off2, rfl, rfl, y, hc1, hc2⟩ := HC.out k hlt
      go_wp2
      go_quiet (fail)
      go_wp2
      go_roundw
      case rel => exact ⟨k + 1, by omega, by go_num, _, rfl⟩
      case measure => simp [intOf]; omega
    · go_wp2
      go_ret
      exact ⟨rfl, n, rfl⟩

/-- Are two lists the same? -/
def sameB (l m : List UInt8) : Bool := decide (l = m)
theorem sameB_yes {l m : List UInt8} (h : l = m) : sameB l m = true := decide_eq_true h
theorem sameB_no {l m : List UInt8} (h : l ≠ m) : sameB l m = false := decide_eq_false h
theorem ret_bool {a b : Bool} (h : a = b) : Ending.returned (.bool a) = .returned (.bool b) := by rw [h]
theorem same_first {l m : List UInt8} (h : l.length = m.length) (hne : l ≠ m) : ∃ k, k < l.length ∧ (∀ i, i < k → l.getD i 0 = m.getD i 0) ∧ l.getD k 0 ≠ m.getD k 0 := by
  induction l generalizing m with
  | nil => exact absurd (List.eq_nil_of_length_eq_zero (by simpa using h.symm)).symm hne
  | cons x l ih =>
    cases m with
    | nil => simp at h
    | cons y m =>
      by_cases hxy : x = y
      · subst hxy
        obtain ⟨k, h1, h2, h3⟩ := ih (by simpa using h) (fun e => hne (by rw [e]))
        refine ⟨k + 1, by simpa using h1, fun i hi => ?_, by simpa using h3⟩
        cases i with
        | zero => rfl
        | succ i => simpa using h2 i (by omega)
      · exact ⟨0, by simp, fun i hi => by omega, by simpa using hxy⟩

set_option maxHeartbeats 400000 in
theorem same_len (v1 v2 : Value) (l m : List UInt8) (w : World) (hv1 : IsB w v1 l) (hv2 : IsB w v2 m) (hne : l.length ≠ m.length) :
    Calls Tryz.prog 35 #[v1, v2] w fun e w' => e = .returned (.bool false) ∧ w' = w := by
  obtain ⟨x1, cap1, rfl, hlc1, hcm1⟩ := hv1.at_len rfl
  obtain ⟨x2, cap2, rfl, hlc2, hcm2⟩ := hv2.at_len rfl
  have hb : ((l.length : Int) != (m.length : Int)) = true := by rw [bne_iff_ne]; omega
  clear hv1 hv2
  go_enter Tryz.func35, Tryz.ntmps35
  go_wp2
  go_ret
  exact ⟨rfl, rfl⟩

set_option maxHeartbeats 400000 in
theorem same_no (v1 v2 : Value) (l m : List UInt8) (w : World) (hv1 : IsB w v1 l) (hv2 : IsB w v2 m) (hl : l.length ≤ 1099511627776) (hlm : l.length = m.length) (hne : l ≠ m) :
    Calls Tryz.prog 35 #[v1, v2] w fun e w' => e = .returned (.bool false) ∧ ∃ n, w' = w.drewN n := by
  obtain ⟨j, hj, hsm, hdf⟩ := same_first hlm hne
  obtain ⟨x1, cap1, rfl, hlc1, hcm1, _, hcell1⟩ := hv1
  obtain ⟨x2, cap2, rfl, hlc2, hcm2, _, hcell2⟩ := hv2
  have HC : Hid (∀ i, i < l.length → ∃ b1 off1 b2 off2, x1 = some ⟨b1, off1, none⟩ ∧ x2 = some ⟨b2, off2, none⟩ ∧ w.cell? ⟨b1, off1 + i, none⟩ = some (bv (l.getD i 0)) ∧ w.cell? ⟨b2, off2 + i, none⟩ = some (bv (m.getD i 0))) := by
    intro i hi
    rcases hcell1 with hE | ⟨b1, off1, rfl, hc1⟩
    · omega
    · rcases hcell2 with hE | ⟨b2, off2, rfl, hc2⟩
      · omega
      · exact ⟨b1, off1, b2, off2, rfl, rfl, hc1 i hi, hc2 i (by omega)⟩
  have HS := Lib.hid hsm
  have HD := Lib.hid hdf
  rw [← hlm]
  clear hcell1 hcell2 hne hlm hsm hdf
  go_enter Tryz.func35, Tryz.ntmps35
  go_wp2
  go_loopw [5] (fun c wr => ∃ k : Nat, k ≤ j ∧ c = .int .i64 k ∧ ∃ n, wr = w.drewN n) (fun c _ => l.length - (intOf c).toNat)
  case atStart => exact ⟨0, by omega, rfl, 0, rfl⟩
  case round =>
    obtain ⟨k, hk, rfl, n, rfl⟩ := hrel
    have hkl : k < l.length := by omega
    obtain ⟨b1, off1, b2, off2, rfl, rfl, hc1, hc2⟩ := HC.out k hkl
    by_cases hlt : k < j
    · have e := HS.out k hlt
      obtain ⟨y, hy⟩ : ∃ y, y = l.getD k 0 := ⟨_, rfl⟩
      rw [← hy] at hc1 e
      rw [← e] at hc2
      clear e hy
      go_wp2
      go_quiet (fail)
      go_wp2
      go_roundw
      case rel => exact ⟨k + 1, by omega, by go_num, _, rfl⟩
      case measure => simp [intOf]; omega
    · obtain rfl : k = j := by omega
      have e := HD.out
      obtain ⟨y, hy⟩ : ∃ y, y = l.getD k 0 := ⟨_, rfl⟩
      obtain ⟨z, hz⟩ : ∃ z, z = m.getD k 0 := ⟨_, rfl⟩
      rw [← hy] at hc1 e
      rw [← hz] at hc2 e
      have hb : ((y.toNat : Int) != (z.toNat : Int)) = true := by
        rw [bne_iff_ne]
        intro h
        exact e (UInt8.toNat_inj.1 (by omega))
      clear e hy hz
      go_wp2
      go_quiet (fail)
      go_wp2
      go_ret
      exact ⟨rfl, _, World.drewN_drewN _ _ _⟩

theorem same_any (v1 v2 : Value) (l m : List UInt8) (w : World) (hv1 : IsB w v1 l) (hv2 : IsB w v2 m) (hl : l.length ≤ 1099511627776) :
    Calls Tryz.prog 35 #[v1, v2] w fun e w' => e = .returned (.bool (sameB l m)) ∧ ∃ n, w' = w.drewN n := by
  by_cases h : l = m
  · subst h
    rw [sameB_yes rfl]
    exact same_yes v1 v2 l w hv1 hv2 hl
  · rw [sameB_no h]
    by_cases hlm : l.length = m.length
    · exact same_no v1 v2 l m w hv1 hv2 hl hlm h
    · exact (same_len v1 v2 l m w hv1 hv2 hlm).mono fun e w' he => ⟨he.1, 0, by rw [he.2]; rfl⟩

theorem refpad_any (n : Int) (w : World) (h1 : -9223372036854775808 ≤ n) (h2 : n ≤ 9223372036854775807) :
    Calls Tryz.prog 69 #[.int .i64 n] w fun e w' => e = .returned (.int .i64 (pad n)) ∧ w = w' := by
  by_cases h : n < 0
  · rw [pad_neg h]
    go_enter Tryz.func69, Tryz.ntmps69
    go_wp2
    refine wp_loop_rounds 1 ?_
    rw [rounds_succ]
    go_wp2
    go_ret
    exact ⟨rfl, rfl⟩
  · have h' : 0 ≤ n := by omega
    have hd : decide (0 ≤ n) = true := by simpa using h'
    have HP := Lib.hid (pad_pos h')
    have hp1 := (pad_range n).1
    have hp2 := (pad_range n).2
    obtain ⟨p, hp⟩ : ∃ p : Nat, pad n = (p : Int) := ⟨(pad n).toNat, by omega⟩
    rw [hp] at HP hp1 hp2 ⊢
    clear hp
    go_enter Tryz.func69, Tryz.ntmps69
    go_wp2
    go_loop [3] (fun c => ∃ k : Nat, k ≤ p ∧ c = .int .i64 k) (fun c => p - (intOf c).toNat)
    case atStart => exact ⟨0, by omega, rfl⟩
    case round =>
      obtain ⟨k, hk, rfl⟩ := hrel
      by_cases hlt : k < p
      · have ht : ((n % 8 + (k : Int)) % 8 != 0) = true := by
          have := HP.out
          rw [bne_iff_ne]
          omega
        go_wp2
        go_round
        case rel => exact ⟨k + 1, by omega, by go_num⟩
        case measure => simp [intOf]; omega
      · obtain rfl : k = p := by omega
        have ht : ((n % 8 + (k : Int)) % 8 != 0) = false := by
          have := HP.out
          rw [bne_eq_false_iff_eq]
          omega
        go_wp2
        go_ret
        exact ⟨rfl, rfl⟩

end Go.Proofs.YtoblbipkkdiddaaGreatDoor
end

section
namespace Go.Proofs.YtoblbipkkdiddaaGreatDoor.Nd
open Go.RowKit Go.Cor

/-- A needle as a value, its data at v. -/
abbrev nval (n : Ndl) (v : Value) : Value := .agg #[.int .u64 (n.key : Int), .int .u32 (n.cookie : Int), .bool n.gone, v]
/-- A needle as it lies in memory of its own. -/
abbrev ncells (n : Ndl) (v : Value) (T : TypeId) : Obj := .cells #[.int .u64 (n.key : Int), .int .u32 (n.cookie : Int), .bool n.gone, v] T
/-- A code as an error, or none. -/
def cerr (k : Nat) : Value := if k = 0 then .nilIface else err (k : Int)
theorem cerr_0 : cerr 0 = .nilIface := rfl
theorem cerr_pos {k : Nat} (h : k ≠ 0) : cerr k = err (k : Int) := if_neg h

theorem pad_padn (n : Nat) : pad (n : Int) = ((padn n : Nat) : Int) := by
  rw [pad_pos (by omega)]
  unfold padn
  omega
/-- The size of so much data. -/
def nsize (d : Int) : Int := if d < 0 ∨ 4096 < d then 0 else 32 + d + pad d
theorem nsize_nat {d : Nat} (h : d ≤ 4096) : nsize (d : Int) = ((32 + d + padn d : Nat) : Int) := by
  unfold nsize
  rw [if_neg (by omega), pad_padn]
  omega

theorem size_out (d : Int) (w : World) (h : d < 0 ∨ 4096 < d) :
    Calls Tryz.prog 74 #[.int .i64 d] w fun e w' => e = .returned (.int .i64 0) ∧ w = w' := by
  by_cases h1 : d < 0
  · go_enter Tryz.func74, Tryz.ntmps74
    go_wp2
    go_ret
    exact ⟨rfl, rfl⟩
  · have h2 : 4096 < d := by omega
    have h3 : 0 ≤ d := by omega
    clear h
    go_enter Tryz.func74, Tryz.ntmps74
    go_wp2
    go_ret
    exact ⟨rfl, rfl⟩

theorem size_any (d : Int) (w : World) (b1 : -9223372036854775808 ≤ d) (b2 : d ≤ 9223372036854775807) :
    Calls Tryz.prog 74 #[.int .i64 d] w fun e w' => e = .returned (.int .i64 (nsize d)) ∧ w = w' := by
  by_cases h : d < 0 ∨ 4096 < d
  · rw [nsize, if_pos h]
    exact size_out d w h
  · have h1 : 0 ≤ d := by omega
    have h2 : d ≤ 4096 := by omega
    have hp := pad_range d
    have hp1 := hp.1
    have hp2 := hp.2
    rw [nsize, if_neg h]
    clear hp h
    go_enter Tryz.func74, Tryz.ntmps74
    go_wp2_with fail
    refine (pad_any d _ b1 b2).mono ?_
    rintro e w' ⟨rfl, rfl⟩
    go_wp2
    go_ret
    exact ⟨rfl, rfl⟩

theorem num_any (n s : Nat) (w : World) (h : Sized (s : Int)) (hn : n ≤ great (s : Int)) :
    Calls Tryz.prog 106 #[.int .u64 n, .int .i64 (s : Int)] w fun e w' =>
      ∃ v', e = .returned v' ∧ w'.ownsRow w.heap.size 5 1 v' s (bvs (le n s)) ∧ Below w.heap.size w w' := by
  go_enter Tryz.func106, Tryz.ntmps106
  go_wp2_with fail
  refine (put_ok _ [] n s _ h hn (IsB.nil _) (by simp)).mono ?_
  rintro e w' ⟨v', rfl, hown, hb⟩
  rw [List.nil_append, length_le] at hown
  go_wp2
  go_ret
  exact ⟨_, rfl, hown, hb⟩

theorem at_any (v : Value) (l : List UInt8) (a s : Nat) (w : World) (hs : Sized (s : Int)) (hv : IsB w v l) (hl : l.length ≤ 1099511627776) (h : a + s ≤ l.length) :
    Calls Tryz.prog 76 #[v, .int .i64 a, .int .i64 s] w fun e w' => e = .returned (.int .u64 (fld l a s : Nat)) ∧ w = w' := by
  go_enter Tryz.func76, Tryz.ntmps76
  go_wp2_with fail
  refine (get_ok _ l a s _ hs hv hl h).mono ?_
  rintro e w' ⟨rfl, rfl⟩
  go_wp2
  go_ret
  exact ⟨rfl, rfl⟩

theorem sumOf_any (v1 v2 : Value) (l m : List UInt8) (w : World) (h1 : IsB w v1 l) (h2 : IsB w v2 m) (hl : l.length ≤ 1099511627776) (hm : m.length ≤ 1099511627776) :
    Calls Tryz.prog 77 #[v1, v2] w fun e w' => e = .returned (.int .u32 (crc (l ++ m) : Nat)) ∧ w = w' := by
  rw [crc_append]
  have hc := crc_lt l
  go_enter Tryz.func77, Tryz.ntmps77
  go_wp2_with fail
  refine (of_any _ l _ h1 hl).mono ?_
  rintro e w' ⟨rfl, rfl⟩
  go_wp2_with fail
  refine (more_any _ _ m _ hc h2 hm).mono ?_
  rintro e w' ⟨rfl, rfl⟩
  go_wp2
  go_ret
  exact ⟨rfl, rfl⟩

/-- Bytes as a string. -/
theorem conv_B {P : Program} {w : World} {v : Value} {l : List UInt8} (hv : IsB w v l) (src dst e : TypeId) (hs : P.underlying src = some (.slice e)) (he : P.underlying e = some (.int .u8)) (hd : P.underlying dst = some .string) :
    (convert src dst v).run P w = .ok (.string ⟨l.toArray⟩) w := by
  obtain ⟨a, cap, rfl, _, _, _, hcell⟩ := hv
  rcases hcell with h0 | ⟨b, off, rfl, hc⟩
  · obtain rfl : l = [] := List.eq_nil_of_length_eq_zero h0
    rw [run_convert_bytes_string w src dst e _ _ _ hs he hd]
    cases a <;> simp [Conv.bytesToString, loadCells]
    all_goals rfl
  · have h := run_convert_bytes_arg (P := P) w src e hs he b off l.length cap (l.map fun x => (x.toNat : Int)) (by simp) (fun i hi => by
      rw [hc i hi]
      simp [List.getD, List.getElem?_map, List.getElem?_eq_getElem hi]) dst hd
    rw [h]
    congr 2
    apply ByteArray.ext
    apply Array.toList_inj.1
    rw [strOfNums_data, List.map_map]
    show _ = l
    conv => rhs; rw [← List.map_id l]
    apply List.map_congr_left
    intro x _
    simp

theorem equal_any (v1 v2 : Value) (l m : List UInt8) (w : World) (h1 : IsB w v1 l) (h2 : IsB w v2 m) :
    Calls Tryz.prog 104 #[v1, v2] w fun e w' => e = .returned (.bool (sameB l m)) ∧ w = w' := by
  have c1 := conv_B (P := Tryz.prog) h1 45 9 5 Tryz.underlying45 Tryz.underlying5 Tryz.underlying9
  have c2 := conv_B (P := Tryz.prog) h2 45 9 5 Tryz.underlying45 Tryz.underlying5 Tryz.underlying9
  go_enter Tryz.func104, Tryz.ntmps104
  go_wp2
  go_ret
  exact ⟨ret_bool (by rw [Bool.eq_iff_iff]; simp [sameB]), rfl⟩

theorem check_any (n : Ndl) (v : Value) (w : World) (hv : IsB w v n.data) :
    Calls Tryz.prog 47 #[nval n v] w fun e w' => e = .returned (cerr (ncheck n)) ∧ Below w.heap.size w w' := by
  obtain ⟨k, c, g, l⟩ := n
  obtain ⟨d, hd⟩ : ∃ d : Nat, l.length = d := ⟨_, rfl⟩
  obtain ⟨x, cap, rfl, hlc, hcm⟩ := hv.at_len hd
  unfold maxLen at hcm
  have HR : Hid (ncheck ⟨k, c, g, l⟩ = if 4096 < d then 2 else if g = true ∧ 0 < d then 1 else 0) := by
    show ncheck ⟨k, c, g, l⟩ = _
    unfold ncheck
    rw [hd]
  clear hv hd
  by_cases h1 : 4096 < d
  · go_enter Tryz.func47, Tryz.ntmps47
    go_wp2
    go_ret
    exact ⟨by rw [HR.out, if_pos h1]; rfl, (Below.refl _ _).alloc (Nat.le_refl _) _⟩
  · cases g with
    | false =>
      go_enter Tryz.func47, Tryz.ntmps47
      go_wp2
      go_ret
      exact ⟨by rw [HR.out, if_neg h1]; rfl, (Below.refl _ _).alloc (Nat.le_refl _) _⟩
    | true =>
      by_cases h2 : 0 < d
      · go_enter Tryz.func47, Tryz.ntmps47
        go_wp2
        go_ret
        exact ⟨by rw [HR.out, if_neg h1, if_pos ⟨trivial, h2⟩]; rfl, (Below.refl _ _).alloc (Nat.le_refl _) _⟩
      · go_enter Tryz.func47, Tryz.ntmps47
        go_wp2
        go_ret
        exact ⟨by rw [HR.out, if_neg h1, if_neg (fun h => h2 h.2)]; rfl, (Below.refl _ _).alloc (Nat.le_refl _) _⟩

/-- A needle in a box of its own. -/
def Boxed (w : World) (g : Nat) (n : Ndl) (v : Value) : Prop :=
  w.cell? ⟨g, 0, none⟩ = some (.int .u64 (n.key : Int)) ∧ w.cell? ⟨g, 1, none⟩ = some (.int .u32 (n.cookie : Int)) ∧ w.cell? ⟨g, 2, none⟩ = some (.bool n.gone) ∧ w.cell? ⟨g, 3, none⟩ = some v
theorem Boxed.new (w : World) (n : Ndl) (v : Value) (T : TypeId) : Boxed (w.alloc (ncells n v T)) w.heap.size n v := by
  refine ⟨?_, ?_, ?_, ?_⟩ <;> go_simp
theorem Boxed.mono {w w' : World} {g B : Nat} {n : Ndl} {v : Value} (h : Boxed w g n v) (hb : Below B w w') (hg : g < B) : Boxed w' g n v :=
  ⟨(hb.cell hg).trans h.1, (hb.cell hg).trans h.2.1, (hb.cell hg).trans h.2.2.1, (hb.cell hg).trans h.2.2.2⟩

theorem sameN_key {a b : Ndl} (h : a.key ≠ b.key) : sameN a b = false := by unfold sameN; exact decide_eq_false fun e => h e.1
theorem sameN_cookie {a b : Ndl} (h : a.cookie ≠ b.cookie) : sameN a b = false := by unfold sameN; exact decide_eq_false fun e => h e.2.1
theorem sameN_gone {a b : Ndl} (h : a.gone ≠ b.gone) : sameN a b = false := by unfold sameN; exact decide_eq_false fun e => h e.2.2.1
theorem sameN_data {k c : Nat} {g : Bool} {l m : List UInt8} : sameN ⟨k, c, g, l⟩ ⟨k, c, g, m⟩ = sameB l m := by
  rw [Bool.eq_iff_iff]
  simp [sameN, sameB]

set_option maxHeartbeats 400000 in
theorem nsame_any (a b : Ndl) (va vb : Value) (w : World) (ha : IsB w va a.data) (hb : IsB w vb b.data) :
    Calls Tryz.prog 81 #[nval a va, nval b vb] w fun e w' => e = .returned (.bool (sameN a b)) ∧ Below w.heap.size w w' := by
  obtain ⟨k1, c1, g1, l⟩ := a
  obtain ⟨k2, c2, g2, m⟩ := b
  by_cases hk : k1 = k2
  · subst hk
    by_cases hc : c1 = c2
    · subst hc
      by_cases hg : g1 = g2
      · subst hg
        rw [sameN_data]
        have HA := Lib.hid ha
        have HB := Lib.hid hb
        clear ha hb
        go_enter Tryz.func81, Tryz.ntmps81
        go_wp2_with fail
        refine (equal_any _ _ l m _ ?_ ?_).mono ?_
        · exact (HA.out.mono ((Below.refl _ _).alloc (Nat.le_refl _) _) (Nat.le_refl _)).mono ((Below.refl _ _).alloc (Nat.le_refl _) _) (Nat.le_refl _)
        · exact (HB.out.mono ((Below.refl _ _).alloc (Nat.le_refl _) _) (Nat.le_refl _)).mono ((Below.refl _ _).alloc (Nat.le_refl _) _) (Nat.le_refl _)
        rintro e w' ⟨rfl, rfl⟩
        go_wp2
        go_ret
        exact ⟨rfl, ((Below.refl _ _).alloc (Nat.le_refl _) _).alloc (by simp) _⟩
      · rw [sameN_gone hg]
        have hgb : (g1 == g2) = false := by simpa using hg
        clear hg
        go_enter Tryz.func81, Tryz.ntmps81
        go_wp2
        go_ret
        exact ⟨rfl, ((Below.refl _ _).alloc (Nat.le_refl _) _).alloc (by simp) _⟩
    · rw [sameN_cookie hc]
      have hcb : ((c1 : Int) == (c2 : Int)) = false := by rw [beq_eq_false_iff_ne]; omega
      clear hc
      go_enter Tryz.func81, Tryz.ntmps81
      go_wp2
      go_ret
      exact ⟨rfl, ((Below.refl _ _).alloc (Nat.le_refl _) _).alloc (by simp) _⟩
  · rw [sameN_key hk]
    have hkb : ((k1 : Int) == (k2 : Int)) = false := by rw [beq_eq_false_iff_ne]; omega
    clear hk
    go_enter Tryz.func81, Tryz.ntmps81
    go_wp2
    go_ret
    exact ⟨rfl, ((Below.refl _ _).alloc (Nat.le_refl _) _).alloc (by simp) _⟩

end Go.Proofs.YtoblbipkkdiddaaGreatDoor.Nd
end

section
namespace Go.Cor
open Go.RowKit

theorem zeroCells_u8 (m : Nat) : Builtin.zeroCells #[.int .u8 0] m = (bvs (zerosN m)).toArray := by
  apply Array.ext
  · simp [Builtin.zeroCells, zerosN]
  · intro i h1 h2
    simp [Builtin.zeroCells, bvs, zerosN, Nat.mod_one]

theorem run_append_zeros {P : Program} (w : World) (base : Nat) (T N U ty : TypeId) (i : TypeInfo) (ht : P.underlying T = some (.slice U)) (hN : P.underlying N = some (.int .i64)) (hi : P.info? U = some i) (hz : i.zero = some (.int .u8 0)) (hsize : i.size = 1) (hby : i.bytes = 1)
    (v : Value) (xs : List UInt8) (n : Nat) (hn : n = xs.length) (hown : w.ownsRow base U 1 v n (bvs xs)) (m : Nat) (hlen : xs.length + m ≤ 1099511627776) (hbase : base ≤ w.heap.size) :
    ∃ v' w', (Builtin.append_ #[T, N] ty #[v, .int .i64 (m : Int)]).run P w = .ok v' w' ∧ w'.ownsRow base U 1 v' (xs ++ zerosN m).length (bvs (xs ++ zerosN m)) ∧ w.grownBy w' v.ownBlock := by
  subst hn
  have has : (asInt (.int .i64 (m : Int))).run P w = .ok (m : Int) w := rfl
  have hw0 : IntKind.i64.wrap 0 = 0 := by decide
  have has0 : (asInt (.int .i64 0)).run P w = .ok 0 w := rfl
  have hwrap : IntKind.i64.wrap (m : Int) = (m : Int) := IntWalk.i64_in _ (by omega)
  have hneg : ¬ ((m : Int) < 0) := by omega
  have hbig : ¬ (281474976710656 < (m : Int)) := by omega
  have hz1 : (Value.int IntKind.u8 0).cells = #[.int .u8 0] := rfl
  have hl2 : (bvs (zerosN m)).length = m := by simp [zerosN]
  have hone := bvs_one (zerosN m)
  have hlen2 : (bvs (xs ++ zerosN m)).length = (xs ++ zerosN m).length * 1 := by simp
  have hll : (xs ++ zerosN m).length = xs.length + m := by simp [zerosN]
  by_cases hm : m = 0
  · subst hm
    have e0 : zerosN 0 = [] := rfl
    rw [e0, List.append_nil]
    refine ⟨v, w, ?_, hown, ⟨rfl, rfl, rfl, Nat.le_refl _, fun _ _ _ => rfl⟩⟩
    rcases hown.2 with ⟨rfl, h0⟩ | ⟨g, cap, cur, rfl, hbg, hg, hnc, hcm, hcs, htake⟩
    · simp [Builtin.append_, run_underlying ht, run_underlying hN, sizeOf, typeInfo, hi, has0, hw0]
    · simp [Builtin.append_, run_underlying ht, run_underlying hN, sizeOf, typeInfo, hi, hsize, hnc, storeCells, has0, hw0]
  · have hm0 : m * 1 ≠ 0 := by omega
    have grown : ∀ (old : Nat), ∀ (row : Option Nat),
        (w.drew.alloc (.cells ((bvs xs).toArray ++ (bvs (zerosN m)).toArray ++ Builtin.zeroCells #[.int .u8 0] (grownCap w (xs.length + m) old U - (xs.length + m))) U)).ownsRow base U 1
          (.slice (some ⟨w.heap.size, 0, none⟩) (xs.length + m) (grownCap w (xs.length + m) old U)) (xs.length + m) (bvs (xs ++ zerosN m)) ∧
        w.grownBy (w.drew.alloc (.cells ((bvs xs).toArray ++ (bvs (zerosN m)).toArray ++ Builtin.zeroCells #[.int .u8 0] (grownCap w (xs.length + m) old U - (xs.length + m))) U)) row := by
      intro old row
      have hge := grownCap_ge w (xs.length + m) old U
      have hcm : grownCap w (xs.length + m) old U ≤ maxLen := grownCap_le_maxLen w (xs.length + m) old U (by unfold maxLen; omega)
      refine ⟨⟨by rw [hlen2, hll], .inr ⟨w.heap.size, _, _, rfl, hbase, heap_alloc_new w.drew _, hge, hcm, ?_, ?_⟩⟩, ⟨rfl, rfl, rfl, by simp, fun k hk _ => heap_alloc_old w.drew _ hk⟩⟩
      · simp only [Array.size_append, List.size_toArray, size_zeroCells, length_bvs, hl2]
        simp
        omega
      · simp only [Array.toList_append, List.append_assoc]
        rw [← List.append_assoc, ← bvs_append]
        exact List.take_left' (by rw [length_bvs, hll, Nat.mul_one])
    rw [hll]
    rcases hown.2 with ⟨rfl, h0⟩ | ⟨g, cap, cur, rfl, hbg, hg, hnc, hcm, hcs, htake⟩
    · obtain rfl : xs = [] := List.eq_nil_of_length_eq_zero h0
      have h63 : ¬ (9223372036854775807 < (m : Int)) := by omega
      have h48 : ¬ (281474976710656 < Builtin.nextslicecap m 0) := by rw [nextslicecap_zero (by omega)]; omega
      have hgr := grown 0 (Value.ownBlock (.slice none 0 0))
      simp only [List.length_nil, Nat.zero_add] at hgr ⊢
      refine ⟨_, _, ?_, hgr.1, hgr.2⟩
      simp [Builtin.append_, run_underlying ht, run_underlying hN, sizeOf, typeInfo, zeroValue, hi, hz, hsize, hby, has, hwrap, hneg, hbig, hm, h63, h48, Question.forced, run_firstCells_none, newRow, grownCap, hz1, zeroCells_u8, bvs_nil]
    · by_cases hroom : xs.length + m ≤ cap
      · have hst := run_storeCells_at P g (xs.length * 1) U (bvs (zerosN m)) 0 cur w hg (by rw [hl2, hcs]; omega) hone
        simp only [Nat.add_zero] at hst
        refine ⟨.slice (some ⟨g, 0, none⟩) (xs.length + m) cap, w.setRow g (cur.toList.take (xs.length * 1) ++ bvs (zerosN m) ++ cur.toList.drop (xs.length * 1 + (bvs (zerosN m)).length)).toArray, ?_, ?_, ?_⟩
        · simp only [Nat.mul_one] at hst ⊢
          simp [Builtin.append_, run_underlying ht, run_underlying hN, sizeOf, typeInfo, zeroValue, hi, hz, hsize, hby, has, hwrap, hneg, hbig, hm, hroom, Addr.add_lit, hz1, zeroCells_u8]
          rw [hst]
          simp
        · refine ⟨by rw [hlen2, hll], .inr ⟨g, cap, _, rfl, hbg, setRow_heap w g cur _ U _ hg, hroom, hcm, ?_, ?_⟩⟩
          · simp only [List.size_toArray, List.length_append, List.length_take, List.length_drop, Array.length_toList, hl2]
            omega
          · rw [htake, bvs_append]
            exact List.take_left' (by rw [List.length_append, length_bvs, hl2, Nat.mul_one])
        · exact ⟨rfl, rfl, rfl, by simp, fun k _ hk => setRow_other w g k _ (fun e => hk (by simp [Value.ownBlock, e]))⟩
      · have holds : ∀ j u, (bvs xs)[j]? = some u → w.cell? ((⟨g, 0, none⟩ : Addr).add j) = some u := hown.cells (g := g) rfl
        have h63 : ¬ (9223372036854775807 < ((xs.length : Int) + (m : Int))) := by omega
        have h48 : ¬ (281474976710656 < Builtin.nextslicecap (xs.length + m) cap) := by
          have h := growslice_fits (need := xs.length + m) (old := cap) (bytes := 1) (by omega) (by omega)
          omega
        have hfo := run_firstCells_some (P := P) w.drew 1 xs.length ⟨g, 0, none⟩ xs.length cap (bvs xs) (by simp) (by simpa using holds)
        have hgr := grown cap (Value.ownBlock (.slice (some ⟨g, 0, none⟩) xs.length cap))
        refine ⟨_, _, ?_, hgr.1, hgr.2⟩
        simp [Builtin.append_, run_underlying ht, run_underlying hN, sizeOf, typeInfo, zeroValue, hi, hz, hsize, hby, has, hwrap, hneg, hbig, hm, hroom, h63, h48, Question.forced, hfo, newRow, grownCap, hz1, zeroCells_u8]

theorem wpList_append_zeros {P : Program} {w : World} {ops : Array Oper} {rest : List Oper} {o : Oper} {a : Act} {Q : Exit → Act → World → Prop} (hw : Region.wanted o (yielded ops a.tmps) = true) (s x : Operand) (T N : TypeId)
    (ho : o.op = .call { callee := .builtin .append, args := #[s, x], argTypes := #[T, N] })
    (base : Nat) (U : TypeId) (i : TypeInfo) (ht : P.underlying T = some (.slice U)) (hN : P.underlying N = some (.int .i64)) (hi : P.info? U = some i) (hz : i.zero = some (.int .u8 0)) (hsize : i.size = 1) (hby : i.bytes = 1)
    (v : Value) (xs : List UInt8) (n : Nat) (hs : a.eval s = v) (hown : w.ownsRow base U 1 v n (bvs xs)) (hn : n = xs.length) (m : Nat) (hx : a.eval x = .int .i64 (m : Int)) (hlen : xs.length + m ≤ 1099511627776) (hbase : base ≤ w.heap.size)
    (h : ∀ v' w', w'.ownsRow base U 1 v' (xs ++ zerosN m).length (bvs (xs ++ zerosN m)) → Below base w w' → wpList P ops Q rest (a.put o.dst v') w') : wpList P ops Q (o :: rest) a w := by
  refine BigFrame.wpList_want hw fun K hK => ?_
  obtain ⟨v', w', hr, h2, h3⟩ := run_append_zeros (P := P) w base T N U o.type i ht hN hi hz hsize hby v xs n hn hown m hlen hbase
  unfold Oper.wp execOp
  simp only [ho, resolve, invoke, builtin, Sem.run_bind, Sem.run_pure, Result.andThen_ok, List.map_toArray, List.map_cons, List.map_nil, hs, hx, hr]
  exact hK _ _ (h v' w' h2 ((Below.refl _ _).grown h3 hbase fun j hj => (hown.lt j hj).1))

end Go.Cor
end
