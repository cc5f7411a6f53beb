/- Idx, OrdE, Idxp, Ref01, Needle, Zeros, Needleb. -/
import Derived.Test.YtcpoaofcfefgaaaGreatDoorM5
import Derived.Deep.RegionHeld
import Derived.StillTailTactics
import Derived.Test.YtcpoaofcfefgaaaGreatDoorM3
import Derived.Deep.QuietTactic
import Derived.BigQuiet
import Derived.Deep.Draws
import Derived.Test.YtcpoaofcfefgaaaGreatDoorM1
import Derived.Laws.BytesArg
import Derived.Laws.BytesString
import Derived.Deep.RegionHeld3

section
namespace Go.Proofs.YtcpoaofcfefgaaaGreatDoor.Q
open Go.RowKit Go.Cor

/-- An index lies in a box, its positions in a row of its own. -/
structure At (w : World) (g : Nat) (v : Value) (l : List Pos) : Prop where
  blk : Blk w g #[v] 138
  row : w.ownsRow 0 49 5 v l.length (row pcells l)
  apart : v.ownBlock ≠ some g
  asc : Asc l
/-- The blocks that it lies in. -/
def own (g : Nat) (v : Value) : Nat → Prop := fun k => k = g ∨ v.ownBlock = some k
theorem At.kept {S : Nat → Prop} {w w' : World} {g : Nat} {v : Value} {l : List Pos} (h : At w g v l) (hk : Kept S w w') (hs : ∀ k, own g v k → ¬ S k) : At w' g v l :=
  ⟨h.blk.kept hk (hs g (.inl rfl)), ownsRow_kept h.row hk (fun k e => hs k (.inr e)), h.apart, h.asc⟩
theorem At.below {w w' : World} {g B : Nat} {v : Value} {l : List Pos} (h : At w g v l) (hb : Below B w w') (hB : w.heap.size ≤ B) : At w' g v l :=
  h.kept (S := fun _ => False) (Kept.of_below hb hB) (fun _ _ h => h)
theorem At.lt {w : World} {g : Nat} {v : Value} {l : List Pos} (h : At w g v l) : ∀ k, own g v k → k < w.heap.size := by
  rintro k (rfl | e)
  · exact h.blk.lt
  · exact (h.row.lt k e).2
theorem At.isP {w : World} {g : Nat} {v : Value} {l : List Pos} (h : At w g v l) : IsP w v l := IsX.own h.row
theorem At.drew {w : World} {g : Nat} {v : Value} {l : List Pos} (h : At w g v l) : At w.drew g v l := h.kept (S := fun _ => False) (Kept.refl _ w).drew (fun _ _ h => h)

/-- slices.Clone of positions. -/
theorem clone_any (v : Value) (l : List Pos) (w : World) (hv : IsP w v l) (hl : l.length ≤ 1048576) :
    Calls Tryz.prog 70 #[v] w fun e w' =>
      ∃ v', e = .returned v' ∧ w'.ownsRow w.heap.size 49 5 v' l.length (row pcells l) ∧ Below w.heap.size w w' := by
  obtain ⟨i0, hi, hz0, hz1, hz2⟩ := info_parts Tryz.infoPos
  have q22 : ∀ (w : World) (a : Option Addr) (n c n' c' : Nat), (binOp .eql 66 (.slice a n c) (.slice none n' c')).run Tryz.prog w = .ok (.bool a.isNone) w := fun w a n c n' c' => Lib.run_eql_slice_nil w _ _ a n c n' c' Tryz.underlying66
  have HV := Lib.hid hv
  obtain ⟨x, cap, rfl, hlc, hcm, hll, hnc, hcell⟩ := hv
  clear hcell hll
  cases x with
  | none =>
    obtain rfl := hnc rfl
    obtain rfl : l = [] := List.eq_nil_of_length_eq_zero (by omega)
    go_enter Tryz.func70, Tryz.ntmps70
    go_wp2
    go_ret
    exact ⟨_, rfl, World.ownsRow_nil _ _ _ _, Below.refl _ _⟩
  | some a =>
    clear hnc
    go_enter Tryz.func70, Tryz.ntmps70
    go_wp2_with (at_builtin; refine wpList_append_X (by rfl) _ _ 66 66 rfl (fun _ _ _ => rfl) w.heap.size 49 i0 _ 5 32 Tryz.underlying66 hi hz0 hz1 hz2 rfl (by decide) _ [] 0 rfl (World.ownsRow_lit _ #[] 0 (Nat.le_refl _) (Nat.zero_le _) rfl) _ l.length _ rfl (HV.out.mono ((Below.refl _ _).alloc (Nat.le_refl _) _) (Nat.le_refl _)) (pcs_one l) (by unfold maxLen; omega) (by omega) (by simp) ?_; intro v4 w4 hown4 hb4 hl4)
    go_ret
    refine ⟨_, rfl, by simpa using hown4, ((Below.refl _ _).alloc (Nat.le_refl _) _).grown hb4 (by simp) (fun k hk => ?_)⟩
    have : some w.heap.size = some k := hk
    cases this
    exact Nat.le_refl _

theorem positions_nil (w : World) :
    Calls Tryz.prog 68 #[.pointer none] w fun e w' => e = .returned (.slice none 0 0) ∧ w = w' := by
  go_enter Tryz.func68, Tryz.ntmps68
  go_wp2
  go_ret
  exact ⟨rfl, rfl⟩
theorem positions_any (g : Nat) (v : Value) (w : World) (h : w.cell? ⟨g, 0, none⟩ = some v) :
    Calls Tryz.prog 68 #[.pointer (some ⟨g, 0, none⟩)] w fun e w' => e = .returned v ∧ w = w' := by
  go_enter Tryz.func68, Tryz.ntmps68
  go_wp2
  go_ret
  exact ⟨rfl, rfl⟩

/-- x is an index of these positions, or none, if there are none. -/
inductive Ix (w : World) : Value → Value → List Pos → Prop
  | nil : Ix w (.pointer none) (.slice none 0 0) []
  | at (g : Nat) (v : Value) (l : List Pos) (h : At w g v l) : Ix w (.pointer (some ⟨g, 0, none⟩)) v l
theorem Ix.isP {w : World} {x v : Value} {l : List Pos} (h : Ix w x v l) : IsP w v l := by
  cases h with
  | nil => exact IsP.nil w
  | «at» g v l h => exact h.isP
theorem Ix.asc {w : World} {x v : Value} {l : List Pos} (h : Ix w x v l) : Asc l := by
  cases h with
  | nil => exact Asc.nil
  | «at» g v l h => exact h.asc
theorem Ix.below {w w' : World} {x v : Value} {l : List Pos} {B : Nat} (h : Ix w x v l) (hb : Below B w w') (hB : w.heap.size ≤ B) : Ix w' x v l := by
  cases h with
  | nil => exact .nil
  | «at» g v l h => exact .at g v l (h.below hb hB)
theorem Ix.alloc {w : World} {x v : Value} {l : List Pos} (h : Ix w x v l) (o : Obj) : Ix (w.alloc o) x v l := h.below ((Below.refl _ _).alloc (Nat.le_refl _) o) (Nat.le_refl _)
theorem blk5_facts {w : World} {g : Nat} {a0 a1 a2 a3 a4 : Value} {T : TypeId} (h : Blk w g #[a0, a1, a2, a3, a4] T) :
    w.cell? ⟨g, 0, none⟩ = some a0 ∧ w.cell? ⟨g, 1, none⟩ = some a1 ∧ w.cell? ⟨g, 2, none⟩ = some a2 ∧ w.cell? ⟨g, 3, none⟩ = some a3 ∧ w.cell? ⟨g, 4, none⟩ = some a4 ∧ (∀ j, w.frozen? ⟨g, j, none⟩ = false) :=
  ⟨h.cell 0 rfl, h.cell 1 rfl, h.cell 2 rfl, h.cell 3 rfl, h.cell 4 rfl, h.free⟩
def set5 (w : World) (g : Nat) (u0 u1 u2 u3 u4 : Value) : World := ((((w.setCell ⟨g, 0, none⟩ u0).setCell ⟨g, 1, none⟩ u1).setCell ⟨g, 2, none⟩ u2).setCell ⟨g, 3, none⟩ u3).setCell ⟨g, 4, none⟩ u4
theorem blk_set5 {w : World} {g : Nat} {a0 a1 a2 a3 a4 : Value} {T : TypeId} (h : Blk w g #[a0, a1, a2, a3, a4] T) (u0 u1 u2 u3 u4 : Value) : Blk (set5 w g u0 u1 u2 u3 u4) g #[u0, u1, u2, u3, u4] T := by
  have := ((((h.set 0 u0).set 1 u1).set 2 u2).set 3 u3).set 4 u4
  simp at this
  exact this
theorem below_set5 {w0 w : World} {B g : Nat} {u0 u1 u2 u3 u4 : Value} (hb : Below B w0 w) (hB : B ≤ g) : Below B w0 (set5 w g u0 u1 u2 u3 u4) :=
  ((((hb.setCell hB _).setCell hB _).setCell hB _).setCell hB _).setCell hB _
theorem positions_ix (x v : Value) (l : List Pos) (w : World) (h : Ix w x v l) :
    Calls Tryz.prog 68 #[x] w fun e w' => e = .returned v ∧ w = w' := by
  cases h with
  | nil => exact positions_nil w
  | «at» g v l h => exact positions_any g v w (h.blk.cell 0 rfl)

/-- No error, or why. -/
def foundE (o : Option Pos) : Value := if o.isSome then .nilIface else .iface 69 (.int .i64 6)

set_option maxHeartbeats 1000000 in
theorem find_any (x v : Value) (l : List Pos) (k : Nat) (w : World) (h : Ix w x v l) (hl : l.length ≤ 1048576) :
    Calls Tryz.prog 90 #[x, .int .u64 (k : Int)] w fun e w' =>
      e = .returned (.tuple #[pval ((fnd l k).getD pzero), foundE (fnd l k)]) ∧ Below w.heap.size w w' := by
  have H := Lib.hid h
  clear h
  obtain ⟨r, hr⟩ : ∃ r, fnd l k = r := ⟨_, rfl⟩
  rw [hr]
  have HR := Lib.hid hr
  clear hr
  go_enter Tryz.func90, Tryz.ntmps90
  go_wp2_with fail
  refine (positions_ix x v l _ (H.out.alloc _)).mono ?_
  rintro e w1 ⟨rfl, rfl⟩
  go_wp2_with fail
  refine (place_any v l k _ (H.out.alloc _).isP H.out.asc hl).mono ?_
  rintro e w2 ⟨rfl, hb2⟩
  rw [HR.out]
  have HK := Lib.hid ((Blk.new w #[.int .u64 0, .int .i64 0, .int .i64 0, .int .u32 0, .bool false] 49).below hb2 (by simp))
  obtain ⟨k0, k1, k2, k3, k4, kf⟩ := blk5_facts HK.out
  have hb3 := Lib.hid (((Below.refl w.heap.size w).alloc (Nat.le_refl _) _).trans (hb2.mono (by simp)))
  have hlt : w.heap.size < w2.heap.size := by have := hb2.size; simp at this; omega
  have HP2 := Lib.hid (((H.out.alloc _).below hb2 (Nat.le_refl _)).isP)
  clear hb2
  cases r with
  | none =>
    go_wp2
    have hZ := blk_set5 HK.out (.int .u64 0) (.int .i64 0) (.int .i64 0) (.int .u32 0) (.bool false)
    have hB3 := below_set5 (u0 := (.int .u64 0)) (u1 := (.int .i64 0)) (u2 := (.int .i64 0)) (u3 := (.int .u32 0)) (u4 := (.bool false)) hb3.out (Nat.le_refl w.heap.size)
    obtain ⟨w3, hw3⟩ : ∃ w3, set5 w2 w.heap.size (.int .u64 0) (.int .i64 0) (.int .i64 0) (.int .u32 0) (.bool false) = w3 := ⟨_, rfl⟩
    rw [hw3] at hZ hB3
    unfold set5 at hw3
    rw [hw3]
    obtain ⟨z0, z1, z2, z3, z4, _⟩ := blk5_facts hZ
    exact bodyPost_ret (v := .tuple #[pval pzero, .iface 69 (.int .i64 6)]) (by simp [results, Tryz.results90, go_sem, z0, z1, z2, z3, z4, pzero]) rfl ⟨rfl, hB3⟩
  | some p =>
    have hp := (fnd_at HR.out).1
    have hi := (List.getElem?_eq_some_iff.1 hp).1
    obtain ⟨b, o, hidx, c0, c1, c2, c3, c4⟩ := indexAt_P HP2.out 66 49 Tryz.underlying66 Tryz.sizePos (psn l k) hi
    rw [pat_of hp] at c0 c1 c2 c3 c4
    clear hp hi
    go_wp2
    have hZ := blk_set5 HK.out (.int .u64 (p.key : Int)) (.int .i64 p.off) (.int .i64 p.len) (.int .u32 (p.cookie : Int)) (.bool p.gone)
    have hB3 := below_set5 (u0 := (.int .u64 (p.key : Int))) (u1 := (.int .i64 p.off)) (u2 := (.int .i64 p.len)) (u3 := (.int .u32 (p.cookie : Int))) (u4 := (.bool p.gone)) hb3.out (Nat.le_refl w.heap.size)
    obtain ⟨w3, hw3⟩ : ∃ w3, set5 w2 w.heap.size (.int .u64 (p.key : Int)) (.int .i64 p.off) (.int .i64 p.len) (.int .u32 (p.cookie : Int)) (.bool p.gone) = w3 := ⟨_, rfl⟩
    rw [hw3] at hZ hB3
    unfold set5 at hw3
    rw [hw3]
    obtain ⟨z0, z1, z2, z3, z4, _⟩ := blk5_facts hZ
    exact bodyPost_ret (v := .tuple #[pval p, .nilIface]) (by simp [results, Tryz.results90, go_sem, z0, z1, z2, z3, z4]) rfl ⟨rfl, hB3⟩

/-- The first positions from a key on. -/
def fromL (l : List Pos) (k : Nat) (most : Int) : List Pos := (l.drop (psn l k)).take most.toNat

set_option maxHeartbeats 1000000 in
theorem from_at (x v : Value) (l : List Pos) (k m : Nat) (most : Int) (w : World) (h : Ix w x v l) (hl : l.length ≤ 1048576) (hm : m ≤ l.length - psn l k)
    (hmm : most < 0 ∧ m = 0 ∨ most = (m : Int) ∨ (((l.length - psn l k : Nat) : Int) < most ∧ m = l.length - psn l k)) :
    Calls Tryz.prog 40 #[x, .int .u64 (k : Int), .int .i64 most] w fun e w' =>
      ∃ v', e = .returned v' ∧ w'.ownsRow w.heap.size 49 5 v' ((l.drop (psn l k)).take m).length (row pcells ((l.drop (psn l k)).take m)) ∧ Below w.heap.size w w' := by
  have H := Lib.hid h
  obtain ⟨N, hN⟩ : ∃ N, l.length = N := ⟨_, rfl⟩
  obtain ⟨q, hq⟩ : ∃ q, psn l k = q := ⟨_, rfl⟩
  have hqN := psn_le l k
  have hX : IsX w 5 v l.length (row pcells l) := h.isP
  rw [hN] at hqN hX
  rw [hN, hq] at hm hmm
  rw [hq] at hqN ⊢
  obtain ⟨a, cap, rfl, hlc, hcm⟩ := hX.slice
  have hsI := slice_l_X (P := Tryz.prog) hX 66 _ Tryz.underlying66 Tryz.sizePos q hqN
  have hX1 := hX.piece (lo := q) (hi := N) hqN (Nat.le_refl _)
  obtain ⟨V1, hV1⟩ : ∃ V1, sliced a q N cap 5 = V1 := ⟨_, rfl⟩
  rw [hV1] at hsI hX1
  obtain ⟨R, hR⟩ : ∃ R, N - q = R := ⟨_, rfl⟩
  have hrow : ((row pcells l).drop (q * 5)).take (R * 5) = row pcells (l.drop q) := by
    rw [row_drop pcells_len]
    exact List.take_of_length_le (by rw [length_row pcells_len, List.length_drop, hN, hR]; omega)
  rw [hR] at hX1 hm hmm
  rw [hrow] at hX1
  obtain ⟨a1, c1, rfl, hlc1, hcm1⟩ := hX1.slice
  have hlen := fun W => len_X (P := Tryz.prog) hX1 66 3 _ Tryz.underlying66 W
  have hXm := hX1.take hm
  rw [row_take pcells_len] at hXm
  have hml : ((l.drop q).take m).length = m := by rw [List.length_take, List.length_drop, hN, hR]; omega
  have HP := Lib.hid (show IsP w (.slice a1 m c1) ((l.drop q).take m) from by unfold IsP; rw [hml]; exact hXm)
  have HQ := Lib.hid hq
  have hml2 : ((l.drop q).take m).length ≤ 1048576 := by rw [hml]; omega
  have hRm : R ≤ 1048576 := by omega
  clear h hX hlc hcm hV1 hX1 hrow hN hq hR hXm hml
  generalize (l.drop q).take m = lm at *
  have tail : ∀ (w2 : World), Below w.heap.size w w2 → Calls Tryz.prog 70 #[.slice a1 m c1] w2 fun e w' => ∃ v', e = .returned v' ∧ w'.ownsRow w.heap.size 49 5 v' lm.length (row pcells lm) ∧ Below w.heap.size w w' := fun w2 hb =>
    (clone_any _ lm w2 (HP.out.mono hb (Nat.le_refl _)) hml2).mono fun e w' ⟨v', h1, h2, h3⟩ => ⟨v', h1, ownsRow_base h2 hb.size, hb.trans (h3.mono hb.size)⟩
  have TL := Lib.hid tail
  clear tail
  rcases hmm with ⟨hmm, rfl⟩ | rfl | ⟨hmm, rfl⟩
  all_goals
    go_enter Tryz.func40, Tryz.ntmps40
    go_wp2_with fail
    refine (positions_ix x _ l _ H.out).mono ?_
    rintro e w1 ⟨rfl, rfl⟩
    go_wp2_with fail
    refine (place_any _ l k _ H.out.isP H.out.asc hl).mono ?_
    rintro e w2 ⟨rfl, hb2⟩
    rw [HQ.out]
    have HB2 := Lib.hid hb2
    clear hb2
    go_wp2_with fail
    refine (TL.out _ HB2.out).mono ?_
    rintro e w3 ⟨v', rfl, h1, h2⟩
    have H1 := Lib.hid h1
    have H2 := Lib.hid h2
    clear h1 h2
    go_wp2
    go_ret
    exact ⟨_, rfl, H1.out, H2.out⟩

theorem from_any (x v : Value) (l : List Pos) (k : Nat) (most : Int) (w : World) (h : Ix w x v l) (hl : l.length ≤ 1048576) :
    Calls Tryz.prog 40 #[x, .int .u64 (k : Int), .int .i64 most] w fun e w' =>
      ∃ v', e = .returned v' ∧ w'.ownsRow w.heap.size 49 5 v' (fromL l k most).length (row pcells (fromL l k most)) ∧ Below w.heap.size w w' := by
  by_cases h1 : most < 0
  · have := from_at x v l k 0 most w h hl (Nat.zero_le _) (.inl ⟨h1, rfl⟩)
    rw [show fromL l k most = (l.drop (psn l k)).take 0 from by unfold fromL; rw [Int.toNat_of_nonpos (by omega)]]
    exact this
  · by_cases h2 : ((l.length - psn l k : Nat) : Int) < most
    · have := from_at x v l k (l.length - psn l k) most w h hl (Nat.le_refl _) (.inr (.inr ⟨h2, rfl⟩))
      rw [show fromL l k most = (l.drop (psn l k)).take (l.length - psn l k) from by
        unfold fromL
        rw [List.take_of_length_le (by rw [List.length_drop]; omega), List.take_of_length_le (by rw [List.length_drop]; omega)]]
      exact this
    · exact from_at x v l k most.toNat most w h hl (by omega) (.inr (.inl (by omega)))

/-- How many are gone. -/
def goneN (l : List Pos) : Nat := l.countP (fun p => p.gone)
theorem goneN_le (l : List Pos) : goneN l ≤ l.length := List.countP_le_length
theorem goneN_snoc {l : List Pos} {i : Nat} (h : i < l.length) : goneN (l.take (i + 1)) = goneN (l.take i) + (if (pat l i).gone then 1 else 0) := by
  rw [take_snoc h]
  unfold goneN
  rw [List.countP_append, List.countP_singleton]

set_option maxHeartbeats 1000000 in
theorem len_any (x v : Value) (l : List Pos) (w : World) (h : Ix w x v l) (hl : l.length ≤ 1048576) :
    Calls Tryz.prog 71 #[x] w fun e w' =>
      e = .returned (.tuple #[.int .i64 ((l.length : Int) - (goneN l : Int)), .int .i64 (goneN l : Int)]) ∧ Below w.heap.size w w' := by
  have H := Lib.hid h
  obtain ⟨N, hN⟩ : ∃ N, l.length = N := ⟨_, rfl⟩
  have hlen := fun W => len_P (P := Tryz.prog) h.isP hN 66 3 _ Tryz.underlying66 W
  rw [hN] at hl ⊢
  have HN := Lib.hid hN
  clear h hN
  go_enter Tryz.func71, Tryz.ntmps71
  go_wp2_with fail
  refine (positions_ix x _ l _ H.out).mono ?_
  rintro e w1 ⟨rfl, rfl⟩
  go_wp2_with fail
  go_loopw [2, 3, 9] (fun a b c wr => ∃ i n : Nat, i ≤ N ∧ n ≤ i ∧ c = .int .i64 i ∧ a = .int .i64 ((i : Int) - (n : Int)) ∧ b = .int .i64 (n : Int) ∧ Hid (goneN (l.take i) = n) ∧ Hid (Below w.heap.size w wr)) (fun _ _ c _ => N - (intOf c).toNat)
  case atStart => exact ⟨0, 0, Nat.zero_le _, Nat.le_refl _, rfl, rfl, rfl, Lib.hid rfl, Lib.hid (Below.refl _ _)⟩
  case round =>
    obtain ⟨i, n, hiN, hni, rfl, rfl, rfl, hG, hB⟩ := hrel
    by_cases hlt : i < N
    · obtain ⟨p, hp⟩ : ∃ p, pat l i = p := ⟨_, rfl⟩
      obtain ⟨b, o, hidx, c0, c1, c2, c3, c4⟩ := indexAt_P (H.out.isP.mono hB.out (Nat.le_refl _)) 66 49 Tryz.underlying66 Tryz.sizePos i (by rw [HN.out]; omega)
      have hsn := goneN_snoc (l := l) (i := i) (by rw [HN.out]; omega)
      rw [hG.out, hp] at hsn
      rw [hp] at c0 c1 c2 c3 c4
      have hB1 := hB.out.size
      obtain ⟨key, off, len, cookie, gone⟩ := p
      cases gone with
      | true =>
        have HS := Lib.hid (show goneN (l.take (i + 1)) = n + 1 from hsn)
        clear hsn hp
        go_wp2
        go_roundw
        case rel => exact ⟨i + 1, n + 1, by omega, by omega, by go_num, by congr 1; omega, by go_num, HS, Lib.hid (by first | exact hB.out.alloc hB1 _ | skip)⟩
        case measure => simp [intOf]; omega
      | false =>
        have HS := Lib.hid (show goneN (l.take (i + 1)) = n from hsn)
        clear hsn hp
        go_wp2
        go_roundw
        case rel => exact ⟨i + 1, n, by omega, by omega, by go_num, by congr 1; omega, by go_num, HS, Lib.hid (by first | exact hB.out.alloc hB1 _ | skip)⟩
        case measure => simp [intOf]; omega
    · obtain rfl : i = N := by omega
      have hG2 := hG.out
      rw [List.take_of_length_le (by rw [HN.out]; omega)] at hG2
      have HG2 := Lib.hid hG2
      clear hG2
      go_wp2
      go_ret2
      exact ⟨by rw [HG2.out]; rfl, hB.out⟩

end Go.Proofs.YtcpoaofcfefgaaaGreatDoor.Q
end

section
namespace Go.Cor
open Go

section
variable {P : Program} {ops : Array Oper} {Q : Exit → Act → World → Prop} {md : Region.Mode} {S : World → Prop} {m : Nat}

/-- Whatever order: S holds behind every operation but number m. -/
def AnyE (P : Program) (md : Region.Mode) (ops : Array Oper) (Q : Exit → Act → World → Prop) (S : World → Prop) (m : Nat) : Nat → Array Bool → Act → World → Prop
  | 0, l, a, w => Region.ready md ops l = [] ∧ Q .normal a w
  | n + 1, l, a, w => (Region.ready md ops l = [] → Q .normal a w) ∧ ∀ i ∈ Region.ready md ops l, wpOp P ops Q i (fun b v => (i = m ∨ S v) ∧ AnyE P md ops Q S m n (l.setIfInBounds i true) b v) a w
theorem AnyE.any : ∀ (n : Nat) (l : Array Bool) (a : Act) (w : World), AnyE P md ops Q S m n l a w → wpAny P md ops Q n l a w
  | 0, _, _, _, h => h
  | n + 1, _, _, _, h => ⟨h.1, fun i hi => wpOp_mono (fun _ _ k => AnyE.any n _ _ _ k.2) (h.2 i hi)⟩
/-- Number m waits for number i. -/
def waitsB (md : Region.Mode) (ops : Array Oper) (m i : Nat) : Bool := match ops[m]? with | some o => o.after.any fun e => Region.binds md e && e.on == i | none => false
theorem waits_not {i : Nat} {l : Array Bool} (hw : waitsB md ops m i = true) (hi : i ∈ Region.ready md ops l) : m ∉ Region.ready md ops l := fun hm => by
  obtain ⟨h1, _⟩ := mem_ready.1 hi
  obtain ⟨_, o, ho, hall⟩ := mem_ready.1 hm
  unfold waitsB at hw
  rw [ho] at hw
  obtain ⟨e, he, h2⟩ := Array.any_eq_true'.1 hw
  rw [Bool.and_eq_true, beq_iff_eq] at h2
  have h3 := hall e he h2.1
  rw [h2.2] at h3
  rcases Nat.lt_or_ge i l.size with h | h
  · simp [h] at h1 h3; rw [h1] at h3; cases h3
  · simp [Array.getElem?_eq_none h] at h3
theorem AnyE.front {i : Nat} {o : Oper} {v : Value} (ho : ops[i]? = some o) (hsel : ∀ (j : Nat) (p : Oper) cs b, ops[j]? = some p → p.op ≠ .select cs b)
    (hQ : ∀ c a w, Q (.panic c) (a.put o.dst v) w → Q (.panic c) a w) (hw : waitsB md ops m i = true) (n : Nat) (l : Array Bool) (a : Act) (w : World)
    (free : ∀ j p, ops[j]? = some p → j ≠ i → l.getD j true = false → (∀ e ∈ p.after, Region.binds md e = true → e.on ≠ i) → o.apart ops p = true)
    (hr : i ∈ Region.ready md ops l) (hy : YieldsIf P ops S o v a) (hS : S w) (H : AnyE P md ops Q S m n (l.setIfInBounds i true) (a.put o.dst v) w) : AnyE P md ops Q S m (n + 1) l a w := by
  induction n generalizing l a w with
  | zero =>
    refine ⟨fun h => (by rw [h] at hr; cases hr), fun j hj => ?_⟩
    by_cases e : j = i
    · subst e
      exact hy.wpOp ho hS ⟨.inr hS, H⟩
    · have h := ready_mono hj e
      rw [H.1] at h
      cases h
  | succ n ih =>
    refine ⟨fun h => (by rw [h] at hr; cases hr), fun j hj => ?_⟩
    by_cases e : j = i
    · subst e
      exact hy.wpOp ho hS ⟨.inr hS, H⟩
    · have hjm : j ≠ m := fun e2 => waits_not hw hr (by rw [← e2]; exact hj)
      obtain ⟨hjl, p, hp, hall⟩ := mem_ready.1 hj
      have hno : ∀ x ∈ p.after, Region.binds md x = true → x.on ≠ i := fun x hx hb hxi => by
        have h1 := hall x hx hb
        have h0 := (mem_ready.1 hr).1
        rw [hxi] at h1
        rcases Nat.lt_or_ge i l.size with h' | h'
        · simp [h'] at h0 h1; rw [h0] at h1; cases h1
        · simp [Array.getElem?_eq_none h'] at h1
      have h2 := wpOp_putIf hp (free j p hp e hjl hno) (fun cs b => hsel i o cs b ho) (fun cs b => hsel j p cs b hp) hQ hy (H.2 j (ready_mono hj e))
      refine wpOp_mono (fun b u k => ?_) h2
      obtain ⟨ky, kS, kE⟩ := k
      have kS' : S u := kS.resolve_left hjm
      refine ⟨.inr kS', ih (l.setIfInBounds j true) b u (fun x q hq hxi hun hn => ?_) (ready_mono hr (Ne.symm e)) ky kS' ?_⟩
      · refine free x q hq hxi ?_ hn
        by_cases hjx : j = x
        · subst hjx; exact hjl
        · rw [getD_set_ne true hjx] at hun; exact hun
      · rw [Array.setIfInBounds_comm _ _ e]
        exact kE
/-- Take number i first. -/
theorem AnyE.take {i : Nat} {o : Oper} {v : Value} {n : Nat} {l : Array Bool} {a : Act} {w : World} (hi : ops[i]? = some o) (hs : Region.noSelect ops = true) (hw : waitsB md ops m i = true) (hf : Region.free md ops l i = true) (hr : (Region.ready md ops l).contains i = true)
    (hQ : ∀ c a w, Q (.panic c) (a.put o.dst v) w → Q (.panic c) a w) (hy : YieldsIf P ops S o v a) (hS : S w) (h : AnyE P md ops Q S m n (l.setIfInBounds i true) (a.put o.dst v) w) : AnyE P md ops Q S m (n + 1) l a w :=
  AnyE.front hi (Region.noSelect_spec hs) hQ hw n l a w (Region.free_spec hi hf) (by simpa using hr) hy hS h
/-- Each of these comes up next. -/
def AllE (P : Program) (md : Region.Mode) (ops : Array Oper) (Q : Exit → Act → World → Prop) (S : World → Prop) (m n : Nat) (l : Array Bool) (a : Act) (w : World) (rs : List Nat) : Prop :=
  ∀ i ∈ rs, wpOp P ops Q i (fun b v => (i = m ∨ S v) ∧ AnyE P md ops Q S m n (l.setIfInBounds i true) b v) a w
theorem AllE.nil {n : Nat} {l : Array Bool} {a : Act} {w : World} : AllE P md ops Q S m n l a w [] := fun _ h => by cases h
theorem AllE.cons {n : Nat} {l : Array Bool} {a : Act} {w : World} {i : Nat} {o : Oper} {rs : List Nat} (ho : ops[i]? = some o)
    (h : ∀ K : Act → World → Prop, Shut (∀ a w, S w → (S w → AnyE P md ops Q S m n (l.setIfInBounds i true) a w) → K a w) → if Region.wanted o (yielded ops a.tmps) = true then Oper.wp P o a w K Q else K (a.put o.dst undef) w)
    (hs : AllE P md ops Q S m n l a w rs) : AllE P md ops Q S m n l a w (i :: rs) := fun j hj => by
  rcases List.mem_cons.1 hj with rfl | hj
  · exact wpOp_step ho (fun K hK => h K (fun a w k1 k2 => hK a w ⟨.inr k1, k2 k1⟩))
  · exact hs j hj
theorem AllE.last {n : Nat} {l : Array Bool} {a : Act} {w : World} {o : Oper} (ho : ops[m]? = some o)
    (h : ∀ K : Act → World → Prop, Shut (∀ a w, AnyE P md ops Q S m n (l.setIfInBounds m true) a w → K a w) → if Region.wanted o (yielded ops a.tmps) = true then Oper.wp P o a w K Q else K (a.put o.dst undef) w) : AllE P md ops Q S m n l a w [m] := fun j hj => by
  obtain rfl : j = m := by simpa using hj
  exact wpOp_step ho (fun K hK => h K (fun a w k => hK a w ⟨.inl rfl, k⟩))
theorem AnyE.next {rs : List Nat} {n : Nat} {l : Array Bool} {a : Act} {w : World} (hr : Region.ready md ops l = rs) (hne : rs ≠ []) (h : AllE P md ops Q S m n l a w rs) : AnyE P md ops Q S m (n + 1) l a w :=
  ⟨fun h0 => absurd (hr ▸ h0) hne, hr ▸ h⟩
theorem AnyE.done {l : Array Bool} {a : Act} {w : World} (hr : Region.ready md ops l = []) (h : Q .normal a w) : ∀ n, AnyE P md ops Q S m n l a w
  | 0 => ⟨hr, h⟩
  | _ + 1 => ⟨fun _ => h, by rw [hr]; simp⟩
theorem AnyE.start {id : Nat} {a : Act} {w : World} (m : Nat) (hm : P.follows .mixedOrders = true) (hS : S w.drew) (h : S w.drew → AnyE P .any ops Q S m ops.size (Array.replicate ops.size false) a w.drew) : (Code.region id ops true).wp P Q a w :=
  wp_region_any hm (AnyE.any _ _ _ _ (h hS))
end
end Go.Cor
end

section
namespace Go.Proofs.YtcpoaofcfefgaaaGreatDoor.Q
open Go.RowKit Go.Cor

set_option maxHeartbeats 1000000 in
/-- Five cells at an address set. -/
def set5o (w : World) (g o : Nat) (p : Pos) : World := ((((w.setCell ⟨g, o, none⟩ (.int .u64 (p.key : Int))).setCell ⟨g, o + 1, none⟩ (.int .i64 p.off)).setCell ⟨g, o + 2, none⟩ (.int .i64 p.len)).setCell ⟨g, o + 3, none⟩ (.int .u32 (p.cookie : Int))).setCell ⟨g, o + 4, none⟩ (.bool p.gone)
theorem row_set5 {l : List Pos} {i : Nat} (h : i < l.length) (p : Pos) :
    (((((row pcells l).set (i * 5) (.int .u64 (p.key : Int))).set (i * 5 + 1) (.int .i64 p.off)).set (i * 5 + 2) (.int .i64 p.len)).set (i * 5 + 3) (.int .u32 (p.cookie : Int))).set (i * 5 + 4) (.bool p.gone) = row pcells (l.set i p) := by
  induction l generalizing i with
  | nil => simp at h
  | cons q r ih =>
    cases i with
    | zero => rfl
    | succ i =>
      have e := ih (i := i) (by simpa using h)
      rw [List.set_cons_succ, row_cons, row_cons, ← e, show (i + 1) * 5 = i * 5 + 1 + 1 + 1 + 1 + 1 from by omega]
      rfl
theorem Kept.set5o {S : Nat → Prop} {a w : World} {g o : Nat} {p : Pos} (h : Kept S a w) (hg : S g ∨ a.heap.size ≤ g) : Kept S a (set5o w g o p) :=
  ((((h.setCell hg _).setCell hg _).setCell hg _).setCell hg _).setCell hg _
theorem At.set {w : World} {g gv i : Nat} {v : Value} {l : List Pos} {p : Pos} (h : At w g v l) (hi : i < l.length) (hgv : v.ownBlock = some gv) (hp : Asc (l.set i p)) : At (set5o w gv (i * 5) p) g v (l.set i p) := by
  have hne : gv ≠ g := fun e => h.apart (e ▸ hgv)
  refine ⟨((((h.blk.other (by exact hne) _).other (by exact hne) _).other (by exact hne) _).other (by exact hne) _).other (by exact hne) _, ?_, h.apart, hp⟩
  obtain ⟨x, c, rfl, _⟩ := ownsRow_slice h.row
  have hx : ∃ ad, x = some ad := by
    cases x with
    | none => simp [Value.ownBlock] at hgv
    | some ad => exact ⟨ad, rfl⟩
  obtain ⟨ad, rfl⟩ := hx
  have st : ∀ {W : World} {xs : List Value} (j : Nat) (u : Value), W.ownsRow 0 49 5 (.slice (some ad) l.length c) l.length xs → (W.setCell ⟨gv, j, none⟩ u).ownsRow 0 49 5 (.slice (some ad) l.length c) l.length (xs.set j u) := by
    intro W xs j u hW
    obtain ⟨g', hg', _, _, _, hs⟩ := indexAt_own (P := Tryz.prog) hW 66 49 Tryz.underlying66 Tryz.sizePos i hi
    have : g' = gv := by
      rw [hgv] at hg'
      exact (Option.some.inj hg').symm
    subst this
    exact hs j u
  rw [List.length_set, ← row_set5 hi p]
  exact st _ _ (st _ _ (st _ _ (st _ _ (st _ _ h.row))))

set_option maxRecDepth 100000 in
theorem put_any (g : Nat) (v : Value) (l : List Pos) (p : Pos) (w : World) (h : At w g v l) (hl : l.length < 4096) :
    Calls Tryz.prog 57 #[.pointer (some ⟨g, 0, none⟩), pval p] w fun e w' =>
      e = .returned .nilIface ∧ ∃ v', At w' g v' (put l p) ∧ Kept (own g v) w w' ∧ ∀ k, own g v' k → own g v k ∨ w.heap.size ≤ k := by
  have H := Lib.hid h
  have hgw := h.blk.lt
  have HA := Lib.hid (h.below ((Below.refl w.heap.size w).alloc (Nat.le_refl _) (.cells #[.int .u64 (p.key : Int), .int .i64 p.off, .int .i64 p.len, .int .u32 (p.cookie : Int), .bool p.gone] 49)) (Nat.le_refl _))
  have HF := Lib.hid (Blk.new w #[.int .u64 (p.key : Int), .int .i64 p.off, .int .i64 p.len, .int .u32 (p.cookie : Int), .bool p.gone] 49)
  have hb1 : Below w.heap.size w (w.alloc (.cells #[.int .u64 (p.key : Int), .int .i64 p.off, .int .i64 p.len, .int .u32 (p.cookie : Int), .bool p.gone] 49)) := (Below.refl w.heap.size w).alloc (Nat.le_refl _) _
  obtain ⟨w1, hw1⟩ : ∃ w1, w.alloc (.cells #[.int .u64 (p.key : Int), .int .i64 p.off, .int .i64 p.len, .int .u32 (p.cookie : Int), .bool p.gone] 49) = w1 := ⟨_, rfl⟩
  have hs1 : w1.heap.size = w.heap.size + 1 := by rw [← hw1]; simp
  rw [hw1] at HA HF hb1
  have k0 : w1.cell? ⟨g, 0, none⟩ = some v := HA.out.blk.cell 0 rfl
  obtain ⟨q0, _⟩ := blk5_facts HF.out
  have HB1 := Lib.hid hb1
  clear h hb1
  go_enter Tryz.func57, Tryz.ntmps57
  go_upto_region 3 with fail
  clear hw1
  have S0 : w1.drew.cell? ⟨g, 0, none⟩ = some v ∧ w1.drew.cell? ⟨w.heap.size, 0, none⟩ = some (.int .u64 (p.key : Int)) := ⟨k0, q0⟩
  have S2 : ∀ wx, Below w1.drew.heap.size w1.drew wx → wx.cell? ⟨g, 0, none⟩ = some v ∧ wx.cell? ⟨w.heap.size, 0, none⟩ = some (.int .u64 (p.key : Int)) := fun wx hb =>
    ⟨(hb.cell (cell_lt S0.1)).trans S0.1, (hb.cell (cell_lt S0.2)).trans S0.2⟩
  obtain ⟨r, hr⟩ : ∃ r, (fnd l p.key).isSome = r := ⟨_, rfl⟩
  have hpl := place_any v l p.key w1.drew HA.out.drew.isP HA.out.asc (by omega)
  rw [hr] at hpl
  have HPL := Lib.hid hpl
  have HR := Lib.hid hr
  clear hpl hr
  go_region_held3 (fun wx => wx.cell? ⟨g, 0, none⟩ = some v ∧ wx.cell? ⟨w.heap.size, 0, none⟩ = some (.int .u64 (p.key : Int))) (first | exact S0 | exact S2 _ (by assumption)) (first | (go_at_call 69; refine HPL.out.mono ?_; rintro e w2 ⟨rfl, hb2⟩))
  clear S0 S2 HPL
  have HA2 := Lib.hid (HA.out.drew.below hb2 (Nat.le_refl _))
  have HF2 := Lib.hid (HF.out.drew.below hb2 (by have := HF.out.lt; exact this))
  have HB2 := Lib.hid (HB1.out.drew.trans (hb2.mono (by show w.heap.size ≤ w1.heap.size; omega)))
  have hs2 : w.heap.size < w2.heap.size := by have := hb2.size; have h9 : w1.drew.heap.size = w1.heap.size := rfl; omega
  clear hb2 k0 q0 hs1
  have k0 : w2.cell? ⟨g, 0, none⟩ = some v := HA2.out.blk.cell 0 rfl
  obtain ⟨q0, q1, q2, q3, q4, _⟩ := blk5_facts HF2.out
  obtain ⟨i, hi⟩ : ∃ i, psn l p.key = i := ⟨_, rfl⟩
  have hil := psn_le l p.key
  rw [hi] at hil ⊢
  have HI := Lib.hid hi
  clear hi
  cases r with
  | true =>
    obtain ⟨p0, hp0⟩ := Option.isSome_iff_exists.1 HR.out
    have hlt : i < l.length := by
      have := (List.getElem?_eq_some_iff.1 (fnd_at hp0).1).1
      rw [HI.out] at this
      exact this
    have HP := Lib.hid (show put l p = l.set i p from by rw [put_there hp0, HI.out])
    clear hp0
    obtain ⟨gv, hgv, hidx, hc, hf, hst⟩ := indexAt_own (P := Tryz.prog) HA2.out.row 66 49 Tryz.underlying66 Tryz.sizePos i hlt
    have hne : gv ≠ g := fun e => HA2.out.apart (e ▸ hgv)
    obtain ⟨c0, c1, c2, c3, c4⟩ := pcells_at hlt hc
    have HV := Lib.hid hgv
    have HIX := Lib.hid hidx
    clear hc hst hgv
    go_upto_region 5 with fail
    go_still_tail 7, (by kernel_rfl)
    change wpList _ _ _ _ _ w2.drew
    go_wp2
    go_ret
    have hasc : Asc (l.set i p) := by rw [← HP.out]; exact put_asc HA2.out.asc p
    refine ⟨rfl, v, ?_, ?_, fun k hk => .inl hk⟩
    · rw [HP.out]
      exact (HA2.out.set hlt HV.out hasc).drew
    · exact (Kept.set5o (Kept.of_below HB2.out (Nat.le_refl _)) (.inl (.inr HV.out))).drew
  | false =>
    have hno : fnd l p.key = none := Option.not_isSome_iff_eq_none.1 (by rw [HR.out]; decide)
    have HP := Lib.hid (show put l p = l.take i ++ p :: l.drop i from by rw [put_new hno, HI.out])
    have HL := Lib.hid (length_put_new hno)
    have hlen := fun W => len_X (P := Tryz.prog) HA2.out.isP 66 3 _ Tryz.underlying66 W
    have hl' : ¬ ((4096 : Int) ≤ (l.length : Int)) := by omega
    clear hno
    obtain ⟨w3, hw3⟩ : ∃ w3, w2.drew.alloc (.cells #[.int .u64 (p.key : Int), .int .i64 p.off, .int .i64 p.len, .int .u32 (p.cookie : Int), .bool p.gone] 49) = w3 := ⟨_, rfl⟩
    have HA3 := Lib.hid (show At w3 g v l from by rw [← hw3]; exact HA2.out.drew.below ((Below.refl _ _).alloc (Nat.le_refl _) _) (Nat.le_refl _))
    have HF3 := Lib.hid (show w3.heap[w2.heap.size]? = some (.cells #[.int .u64 (p.key : Int), .int .i64 p.off, .int .i64 p.len, .int .u32 (p.cookie : Int), .bool p.gone] 49 (0, 0)) from by rw [← hw3]; exact Blk.new w2.drew _ _)
    have HB3 := Lib.hid (show Below w.heap.size w w3 from by rw [← hw3]; exact HB2.out.drew.alloc (by show w.heap.size ≤ w2.heap.size; omega) _)
    have hs3 : w3.heap.size = w2.heap.size + 1 := by rw [← hw3]; simp
    have k3 : w3.cell? ⟨g, 0, none⟩ = some v := HA3.out.blk.cell 0 rfl
    have hav : v.ownBlock ≠ some w2.heap.size := fun e => by have := HA2.out.lt _ (.inr e); omega
    have HIN := Lib.hid (tins_any v l p w2.heap.size i w3 HA3.out.row hil (by omega) hav HF3.out)
    have S0 : w2.drew.cell? ⟨g, 0, none⟩ = some v ∧ w2.drew.cell? ⟨w.heap.size, 0, none⟩ = some (.int .u64 (p.key : Int)) ∧ w2.drew.cell? ⟨w.heap.size, 1, none⟩ = some (.int .i64 p.off) ∧ w2.drew.cell? ⟨w.heap.size, 2, none⟩ = some (.int .i64 p.len) ∧ w2.drew.cell? ⟨w.heap.size, 3, none⟩ = some (.int .u32 (p.cookie : Int)) ∧ w2.drew.cell? ⟨w.heap.size, 4, none⟩ = some (.bool p.gone) := ⟨k0, q0, q1, q2, q3, q4⟩
    have S1 : w3.cell? ⟨g, 0, none⟩ = some v ∧ w3.cell? ⟨w.heap.size, 0, none⟩ = some (.int .u64 (p.key : Int)) ∧ w3.cell? ⟨w.heap.size, 1, none⟩ = some (.int .i64 p.off) ∧ w3.cell? ⟨w.heap.size, 2, none⟩ = some (.int .i64 p.len) ∧ w3.cell? ⟨w.heap.size, 3, none⟩ = some (.int .u32 (p.cookie : Int)) ∧ w3.cell? ⟨w.heap.size, 4, none⟩ = some (.bool p.gone) := by
      have cl : ∀ (q : Addr) (u : Value), q.block < w2.heap.size → w2.cell? q = some u → w3.cell? q = some u := fun q u hq h => by rw [← hw3]; exact (Below.cell (B := w2.heap.size) ((Below.refl _ w2.drew).alloc (Nat.le_refl _) _) hq).trans h
      exact ⟨k3, cl _ _ hs2 q0, cl _ _ hs2 q1, cl _ _ hs2 q2, cl _ _ hs2 q3, cl _ _ hs2 q4⟩
    go_upto_region 9 with fail
    have F : ∀ wx, Kept (fun k => v.ownBlock = some k) w3 wx → wx.cell? ⟨g, 0, none⟩ = some v ∧ wx.cell? ⟨w.heap.size, 0, none⟩ = some (.int .u64 (p.key : Int)) ∧ wx.cell? ⟨w.heap.size, 1, none⟩ = some (.int .i64 p.off) ∧ wx.cell? ⟨w.heap.size, 2, none⟩ = some (.int .i64 p.len) ∧ wx.cell? ⟨w.heap.size, 3, none⟩ = some (.int .u32 (p.cookie : Int)) ∧ wx.cell? ⟨w.heap.size, 4, none⟩ = some (.bool p.gone) := fun wx hk =>
      have cl : ∀ (q : Addr) (u : Value), (q.block = g ∨ q.block = w.heap.size) → w3.cell? q = some u → wx.cell? q = some u := fun q u hq h => hk.cell h (fun e => by
        rcases hq with hq | hq
        · exact HA3.out.apart (hq ▸ e)
        · have h9 := H.out.lt _ (.inr e)
          rw [hq] at h9
          exact Nat.lt_irrefl _ h9)
      ⟨cl _ _ (.inl rfl) S1.1, cl _ _ (.inr rfl) S1.2.1, cl _ _ (.inr rfl) S1.2.2.1, cl _ _ (.inr rfl) S1.2.2.2.1, cl _ _ (.inr rfl) S1.2.2.2.2.1, cl _ _ (.inr rfl) S1.2.2.2.2.2⟩
    refine AnyE.start (S := (fun wx => wx.cell? ⟨g, 0, none⟩ = some v ∧ wx.cell? ⟨w.heap.size, 0, none⟩ = some (.int .u64 (p.key : Int)) ∧ wx.cell? ⟨w.heap.size, 1, none⟩ = some (.int .i64 p.off) ∧ wx.cell? ⟨w.heap.size, 2, none⟩ = some (.int .i64 p.len) ∧ wx.cell? ⟨w.heap.size, 3, none⟩ = some (.int .u32 (p.cookie : Int)) ∧ wx.cell? ⟨w.heap.size, 4, none⟩ = some (.bool p.gone))) 11 (by kernel_rfl) S0 (fun hHeld => ?_)
    refine AnyE.take (i := 0) (v := ?_) rfl (by kernel_rfl) (by kernel_rfl) (by kernel_rfl) (by kernel_rfl) (fun _ _ _ h => h) (Or.inl ⟨by rfl, ?_⟩) (by assumption) ?_
    rotate_left 1
    · intro w hSw
      (try dsimp only at hSw)
      go_simp
      all_goals (with_reducible rfl)
    try simp only [Act.put, List.getElem_toArray, List.getElem_cons_zero, List.getElem_cons_succ, List.setIfInBounds_toArray, List.set_cons_zero, List.set_cons_succ]
    refine AnyE.take (i := 1) (v := ?_) rfl (by kernel_rfl) (by kernel_rfl) (by kernel_rfl) (by kernel_rfl) (fun _ _ _ h => h) (Or.inl ⟨by rfl, ?_⟩) (by assumption) ?_
    rotate_left 1
    · intro w hSw
      (try dsimp only at hSw)
      go_simp
      all_goals (with_reducible rfl)
    try simp only [Act.put, List.getElem_toArray, List.getElem_cons_zero, List.getElem_cons_succ, List.setIfInBounds_toArray, List.set_cons_zero, List.set_cons_succ]
    refine AnyE.take (i := 2) (v := ?_) rfl (by kernel_rfl) (by kernel_rfl) (by kernel_rfl) (by kernel_rfl) (fun _ _ _ h => h) (Or.inl ⟨by rfl, ?_⟩) (by assumption) ?_
    rotate_left 1
    · intro w hSw
      (try dsimp only at hSw)
      go_simp
      all_goals (with_reducible rfl)
    try simp only [Act.put, List.getElem_toArray, List.getElem_cons_zero, List.getElem_cons_succ, List.setIfInBounds_toArray, List.set_cons_zero, List.set_cons_succ]
    refine AnyE.take (i := 3) (v := ?_) rfl (by kernel_rfl) (by kernel_rfl) (by kernel_rfl) (by kernel_rfl) (fun _ _ _ h => h) (Or.inl ⟨by rfl, ?_⟩) (by assumption) ?_
    rotate_left 1
    · intro w hSw
      (try dsimp only at hSw)
      go_simp
      all_goals (with_reducible rfl)
    try simp only [Act.put, List.getElem_toArray, List.getElem_cons_zero, List.getElem_cons_succ, List.setIfInBounds_toArray, List.set_cons_zero, List.set_cons_succ]
    refine AnyE.take (i := 4) (v := ?_) rfl (by kernel_rfl) (by kernel_rfl) (by kernel_rfl) (by kernel_rfl) (fun _ _ _ h => h) (Or.inl ⟨by rfl, ?_⟩) (by assumption) ?_
    rotate_left 1
    · intro w hSw
      (try dsimp only at hSw)
      go_simp
      all_goals (with_reducible rfl)
    try simp only [Act.put, List.getElem_toArray, List.getElem_cons_zero, List.getElem_cons_succ, List.setIfInBounds_toArray, List.set_cons_zero, List.set_cons_succ]
    refine AnyE.take (i := 5) (v := ?_) rfl (by kernel_rfl) (by kernel_rfl) (by kernel_rfl) (by kernel_rfl) (fun _ _ _ h => h) (Or.inl ⟨by rfl, ?_⟩) (by assumption) ?_
    rotate_left 1
    · intro w hSw
      (try dsimp only at hSw)
      go_simp
      all_goals (with_reducible rfl)
    try simp only [Act.put, List.getElem_toArray, List.getElem_cons_zero, List.getElem_cons_succ, List.setIfInBounds_toArray, List.set_cons_zero, List.set_cons_succ]
    refine AnyE.take (i := 6) (v := ?_) rfl (by kernel_rfl) (by kernel_rfl) (by kernel_rfl) (by kernel_rfl) (fun _ _ _ h => h) (Or.inl ⟨by rfl, ?_⟩) (by assumption) ?_
    rotate_left 1
    · intro w hSw
      (try dsimp only at hSw)
      go_simp
      all_goals (with_reducible rfl)
    try simp only [Act.put, List.getElem_toArray, List.getElem_cons_zero, List.getElem_cons_succ, List.setIfInBounds_toArray, List.set_cons_zero, List.set_cons_succ]
    refine AnyE.next (rs := [7]) (by kernel_rfl) (by simp) ?_
    refine AllE.cons rfl (fun K hK => ?_) AllE.nil
    go_simp
    refine hK.out _ _ (by first | exact S1 | (rw [hw3]; exact S1)) (fun hHeld => ?_)
    clear hK K
    try simp only [Act.put, List.getElem_toArray, List.getElem_cons_zero, List.getElem_cons_succ, List.setIfInBounds_toArray, List.set_cons_zero, List.set_cons_succ]
    refine AnyE.next (rs := [8]) (by kernel_rfl) (by simp) ?_
    refine AllE.cons rfl (fun K hK => ?_) AllE.nil
    go_simp
    refine HIN.out.mono ?_
    rintro e w4 ⟨v', rfl, h1, h2, h3⟩
    obtain ⟨x4, c4, rfl, _, _⟩ := ownsRow_slice h1
    have K4 : w4.cell? ⟨g, 0, none⟩ = some v := h2.cell k3 (fun e => HA3.out.apart e)
    have Z4 : w4.frozen? ⟨g, 0, none⟩ = false := (h2.frozen (p := ⟨g, 0, none⟩) HA3.out.blk.lt (fun e => HA3.out.apart e)).trans (HA3.out.blk.free 0)
    refine hK.out _ _ (F _ h2) (fun hHeld => ?_)
    clear hK K
    try simp only [Act.put, List.getElem_toArray, List.getElem_cons_zero, List.getElem_cons_succ, List.setIfInBounds_toArray, List.set_cons_zero, List.set_cons_succ]
    refine AnyE.next (rs := [9]) (by kernel_rfl) (by simp) ?_
    refine AllE.cons rfl (fun K hK => ?_) AllE.nil
    go_simp
    refine hK.out _ _ (F _ h2) (fun hHeld => ?_)
    clear hK K
    try simp only [Act.put, List.getElem_toArray, List.getElem_cons_zero, List.getElem_cons_succ, List.setIfInBounds_toArray, List.set_cons_zero, List.set_cons_succ]
    refine AnyE.next (rs := [10]) (by kernel_rfl) (by simp) ?_
    refine AllE.cons rfl (fun K hK => ?_) AllE.nil
    go_simp
    refine hK.out _ _ (F _ h2) (fun hHeld => ?_)
    clear hK K
    try simp only [Act.put, List.getElem_toArray, List.getElem_cons_zero, List.getElem_cons_succ, List.setIfInBounds_toArray, List.set_cons_zero, List.set_cons_succ]
    refine AnyE.next (rs := [11]) (by kernel_rfl) (by simp) ?_
    refine AllE.last rfl (fun K hK => ?_)
    go_simp
    refine hK.out _ _ ?_
    clear hK K
    try simp only [Act.put, List.getElem_toArray, List.getElem_cons_zero, List.getElem_cons_succ, List.setIfInBounds_toArray, List.set_cons_zero, List.set_cons_succ]
    refine AnyE.done (by kernel_rfl) ?_ _
    go_wp2
    go_ret
    have hapart : (Value.slice x4 (l.length + 1) c4).ownBlock ≠ some g := by
      rcases h3 with h3 | h3
      · rw [h3]
        exact HA3.out.apart
      · rw [h3]
        intro e
        have := Option.some.inj e
        omega
    have hk5 : Kept (fun k => k = g) w4 (w4.setCell ⟨g, 0, none⟩ (.slice x4 (l.length + 1) c4)) := Kept.setCell (S := fun k => k = g) (Kept.refl _ w4) (.inl rfl) _
    refine ⟨rfl, .slice x4 (l.length + 1) c4, ⟨?_, ?_, hapart, put_asc HA2.out.asc p⟩, ?_, ?_⟩
    · have hb := (HA3.out.blk.kept h2 (fun e => HA3.out.apart e)).set 0 (.slice x4 (l.length + 1) c4)
      simpa using hb
    · rw [HL.out, HP.out]
      exact ownsRow_kept h1 hk5 (fun k hk e => hapart (e ▸ hk))
    · exact ((Kept.of_below HB3.out (Nat.le_refl _)).trans h2 (fun j hj _ => .inr hj)).setCell (.inl (.inl rfl)) _
    · rintro k (rfl | hk)
      · exact .inl (.inl rfl)
      · rcases h3 with h3 | h3
        · exact .inl (.inr (h3 ▸ hk))
        · rw [h3] at hk
          have := Option.some.inj hk
          exact .inr (by omega)

/-- An index that was made behind B. -/
def Own (w : World) (B g : Nat) (l : List Pos) : Prop := ∃ v, At w g v l ∧ ∀ k, own g v k → B ≤ k
theorem Own.below {w w' : World} {B C g : Nat} {l : List Pos} (h : Own w B g l) (hb : Below C w w') (hB : w.heap.size ≤ C) : Own w' B g l := by
  obtain ⟨v, h1, h2⟩ := h
  exact ⟨v, h1.below hb hB, h2⟩
theorem Own.ix {w : World} {B g : Nat} {l : List Pos} (h : Own w B g l) : ∃ v, Ix w (.pointer (some ⟨g, 0, none⟩)) v l := by
  obtain ⟨v, h1, _⟩ := h
  exact ⟨v, .at g v l h1⟩
theorem Own.mono {w : World} {B C g : Nat} {l : List Pos} (h : Own w B g l) (hC : C ≤ B) : Own w C g l := by
  obtain ⟨v, h1, h2⟩ := h
  exact ⟨v, h1, fun k hk => Nat.le_trans hC (h2 k hk)⟩
theorem Own.asc {w : World} {B g : Nat} {l : List Pos} (h : Own w B g l) : Asc l := by
  obtain ⟨v, h1, _⟩ := h
  exact h1.asc
theorem put_own (B g : Nat) (l : List Pos) (p : Pos) (w : World) (h : Own w B g l) (hl : l.length < 4096) (hB : B ≤ w.heap.size) :
    Calls Tryz.prog 57 #[.pointer (some ⟨g, 0, none⟩), pval p] w fun e w' => e = .returned .nilIface ∧ Own w' B g (put l p) ∧ Below B w w' := by
  obtain ⟨v, h1, h2⟩ := h
  refine (put_any g v l p w h1 hl).mono ?_
  rintro e w' ⟨he, v', k1, k2, k3⟩
  refine ⟨he, ⟨v', k1, fun k hk => ?_⟩, k2.below hB (fun k hk hs => ?_)⟩
  · rcases k3 k hk with h | h
    · exact h2 k h
    · omega
  · have := h2 k hs
    omega

/-- New of so many positions. -/
theorem new_any (v : Value) (ps : List Pos) (w : World) (hv : IsP w v ps) (hl : ps.length ≤ 4000) :
    Calls Tryz.prog 30 #[v] w fun e w' =>
      ∃ g, e = .returned (.pointer (some ⟨g, 0, none⟩)) ∧ Own w' w.heap.size g (puts [] ps) ∧ Below w.heap.size w w' := by
  obtain ⟨N, hN⟩ : ∃ N, ps.length = N := ⟨_, rfl⟩
  have hlen := fun W => len_P (P := Tryz.prog) hv hN 66 3 _ Tryz.underlying66 W
  have HV := Lib.hid hv
  rw [hN] at hl
  have HN := Lib.hid hN
  clear hv hN
  go_enter Tryz.func30, Tryz.ntmps30
  go_wp2
  go_loopw [10] (fun c wr => ∃ i : Nat, i ≤ N ∧ c = .int .i64 i ∧ Hid (Below w.heap.size w wr) ∧ Hid (Own wr w.heap.size w.heap.size (puts [] (ps.take i)))) (fun c _ => N - (intOf c).toNat)
  case atStart => exact ⟨0, Nat.zero_le _, rfl, Lib.hid ((Below.refl _ _).alloc (Nat.le_refl _) _), Lib.hid ⟨_, ⟨Blk.new w _ _, World.ownsRow_nil _ _ _ _, by simp [Value.ownBlock], Asc.nil⟩, by
    rintro k (rfl | e)
    · exact Nat.le_refl _
    · simp [Value.ownBlock] at e⟩⟩
  case round =>
    obtain ⟨i, hiN, rfl, HB, HO⟩ := hrel
    by_cases hlt : i < N
    · obtain ⟨p, hp⟩ : ∃ p, pat ps i = p := ⟨_, rfl⟩
      obtain ⟨b, o, hidx, c0, c1, c2, c3, c4⟩ := indexAt_P (HV.out.mono HB.out (Nat.le_refl _)) 66 49 Tryz.underlying66 Tryz.sizePos i (by rw [HN.out]; omega)
      rw [hp] at c0 c1 c2 c3 c4
      have HT := Lib.hid (show puts [] (ps.take (i + 1)) = put (puts [] (ps.take i)) p from by rw [take_snoc (by rw [HN.out]; exact hlt), puts_snoc, hp])
      have hsz := HB.out.size
      have HL := Lib.hid (show (puts [] (ps.take i)).length < 4096 from by
        have := length_puts [] (ps.take i)
        rw [List.length_take] at this
        simp at this
        omega)
      have HC := Lib.hid (show PCells wr b o p from ⟨c0, c1, c2, c3, c4⟩)
      clear hp
      go_wp2_with fail
      refine (put_own w.heap.size w.heap.size _ p _ (HO.out.below ((Below.refl _ _).alloc (Nat.le_refl _) _) (Nat.le_refl _)) HL.out (by simp; omega)).mono ?_
      rintro e w2 ⟨rfl, h1, h2⟩
      rw [← HT.out] at h1
      have H1 := Lib.hid h1
      have H2 := Lib.hid ((HB.out.alloc hsz _).trans h2)
      clear h1 h2 c0 c1 c2 c3 c4 hidx
      go_wp2
      go_roundw
      case rel => exact ⟨i + 1, by omega, by go_num, H2, H1⟩
      case measure => simp [intOf]; omega
    · obtain rfl : i = N := by omega
      have h9 := HO.out
      rw [List.take_of_length_le (by rw [HN.out]; omega)] at h9
      have H9 := Lib.hid h9
      clear h9
      go_wp2
      go_ret
      exact ⟨_, rfl, H9.out, HB.out⟩

end Go.Proofs.YtcpoaofcfefgaaaGreatDoor.Q
end

section
namespace Go.Proofs.YtcpoaofcfefgaaaGreatDoor
open Go.RowKit Go.Cor

theorem refpad_any (n : Int) (w : World) (h1 : -9223372036854775808 ≤ n) (h2 : n ≤ 9223372036854775807) :
    Calls Tryz.prog 87 #[.int .i64 n] w fun e w' => e = .returned (.int .i64 (pad n)) ∧ w = w' := by
  by_cases h : n < 0
  · rw [pad_neg h]
    go_enter Tryz.func87, Tryz.ntmps87
    go_wp2
    refine wp_loop_rounds 1 ?_
    rw [rounds_succ]
    go_wp2
    go_ret
    exact ⟨rfl, rfl⟩
  · have h' : 0 ≤ n := by omega
    have hd : decide (0 ≤ n) = true := by simpa using h'
    have HP := Lib.hid (pad_pos h')
    have hp1 := (pad_range n).1
    have hp2 := (pad_range n).2
    obtain ⟨p, hp⟩ : ∃ p : Nat, pad n = (p : Int) := ⟨(pad n).toNat, by omega⟩
    rw [hp] at HP hp1 hp2 ⊢
    clear hp
    go_enter Tryz.func87, Tryz.ntmps87
    go_wp2
    go_loop [3] (fun c => ∃ k : Nat, k ≤ p ∧ c = .int .i64 k) (fun c => p - (intOf c).toNat)
    case atStart => exact ⟨0, by omega, rfl⟩
    case round =>
      obtain ⟨k, hk, rfl⟩ := hrel
      by_cases hlt : k < p
      · have ht : ((n % 8 + (k : Int)) % 8 != 0) = true := by
          have := HP.out
          rw [bne_iff_ne]
          omega
        go_wp2
        go_round
        case rel => exact ⟨k + 1, by omega, by go_num⟩
        case measure => simp [intOf]; omega
      · obtain rfl : k = p := by omega
        have ht : ((n % 8 + (k : Int)) % 8 != 0) = false := by
          have := HP.out
          rw [bne_eq_false_iff_eq]
          omega
        go_wp2
        go_ret
        exact ⟨rfl, rfl⟩

end Go.Proofs.YtcpoaofcfefgaaaGreatDoor
end

section
namespace Go.Proofs.YtcpoaofcfefgaaaGreatDoor.Nd
open Go.RowKit Go.Cor

/-- A needle as a value, its data at v. -/
abbrev nval (n : Ndl) (v : Value) : Value := .agg #[.int .u64 (n.key : Int), .int .u32 (n.cookie : Int), .bool n.gone, v]
/-- A needle as it lies in memory of its own. -/
abbrev ncells (n : Ndl) (v : Value) (T : TypeId) : Obj := .cells #[.int .u64 (n.key : Int), .int .u32 (n.cookie : Int), .bool n.gone, v] T
/-- A code as an error, or none. -/
def cerr (k : Nat) : Value := if k = 0 then .nilIface else err (k : Int)
theorem cerr_0 : cerr 0 = .nilIface := rfl
theorem cerr_pos {k : Nat} (h : k ≠ 0) : cerr k = err (k : Int) := if_neg h

theorem pad_padn (n : Nat) : pad (n : Int) = ((padn n : Nat) : Int) := by
  rw [pad_pos (by omega)]
  unfold padn
  omega
/-- The size of so much data. -/
def nsize (d : Int) : Int := if d < 0 ∨ 4096 < d then 0 else 32 + d + pad d
theorem nsize_nat {d : Nat} (h : d ≤ 4096) : nsize (d : Int) = ((32 + d + padn d : Nat) : Int) := by
  unfold nsize
  rw [if_neg (by omega), pad_padn]
  omega

theorem size_out (d : Int) (w : World) (h : d < 0 ∨ 4096 < d) :
    Calls Tryz.prog 93 #[.int .i64 d] w fun e w' => e = .returned (.int .i64 0) ∧ w = w' := by
  by_cases h1 : d < 0
  · go_enter Tryz.func93, Tryz.ntmps93
    go_wp2
    go_ret
    exact ⟨rfl, rfl⟩
  · have h2 : 4096 < d := by omega
    have h3 : 0 ≤ d := by omega
    clear h
    go_enter Tryz.func93, Tryz.ntmps93
    go_wp2
    go_ret
    exact ⟨rfl, rfl⟩

theorem size_any (d : Int) (w : World) (b1 : -9223372036854775808 ≤ d) (b2 : d ≤ 9223372036854775807) :
    Calls Tryz.prog 93 #[.int .i64 d] w fun e w' => e = .returned (.int .i64 (nsize d)) ∧ w = w' := by
  by_cases h : d < 0 ∨ 4096 < d
  · rw [nsize, if_pos h]
    exact size_out d w h
  · have h1 : 0 ≤ d := by omega
    have h2 : d ≤ 4096 := by omega
    have hp := pad_range d
    have hp1 := hp.1
    have hp2 := hp.2
    rw [nsize, if_neg h]
    clear hp h
    go_enter Tryz.func93, Tryz.ntmps93
    go_wp2_with fail
    refine (pad_any d _ b1 b2).mono ?_
    rintro e w' ⟨rfl, rfl⟩
    go_wp2
    go_ret
    exact ⟨rfl, rfl⟩

theorem num_any (n s : Nat) (w : World) (h : Sized (s : Int)) (hn : n ≤ great (s : Int)) :
    Calls Tryz.prog 115 #[.int .u64 n, .int .i64 (s : Int)] w fun e w' =>
      ∃ v', e = .returned v' ∧ w'.ownsRow w.heap.size 5 1 v' s (bvs (le n s)) ∧ Below w.heap.size w w' := by
  go_enter Tryz.func115, Tryz.ntmps115
  go_wp2_with fail
  refine (put_ok _ [] n s _ h hn (IsB.nil _) (by simp)).mono ?_
  rintro e w' ⟨v', rfl, hown, hb⟩
  rw [List.nil_append, length_le] at hown
  go_wp2
  go_ret
  exact ⟨_, rfl, hown, hb⟩

theorem at_any (v : Value) (l : List UInt8) (a s : Nat) (w : World) (hs : Sized (s : Int)) (hv : IsB w v l) (hl : l.length ≤ 1099511627776) (h : a + s ≤ l.length) :
    Calls Tryz.prog 95 #[v, .int .i64 a, .int .i64 s] w fun e w' => e = .returned (.int .u64 (fld l a s : Nat)) ∧ w = w' := by
  go_enter Tryz.func95, Tryz.ntmps95
  go_wp2_with fail
  refine (get_ok _ l a s _ hs hv hl h).mono ?_
  rintro e w' ⟨rfl, rfl⟩
  go_wp2
  go_ret
  exact ⟨rfl, rfl⟩

theorem sumOf_any (v1 v2 : Value) (l m : List UInt8) (w : World) (h1 : IsB w v1 l) (h2 : IsB w v2 m) (hl : l.length ≤ 1099511627776) (hm : m.length ≤ 1099511627776) :
    Calls Tryz.prog 96 #[v1, v2] w fun e w' => e = .returned (.int .u32 (crc (l ++ m) : Nat)) ∧ w = w' := by
  rw [crc_append]
  have hc := crc_lt l
  go_enter Tryz.func96, Tryz.ntmps96
  go_wp2_with fail
  refine (of_any _ l _ h1 hl).mono ?_
  rintro e w' ⟨rfl, rfl⟩
  go_wp2_with fail
  refine (more_any _ _ m _ hc h2 hm).mono ?_
  rintro e w' ⟨rfl, rfl⟩
  go_wp2
  go_ret
  exact ⟨rfl, rfl⟩

theorem check_any (n : Ndl) (v : Value) (w : World) (hv : IsB w v n.data) :
    Calls Tryz.prog 60 #[nval n v] w fun e w' => e = .returned (cerr (ncheck n)) ∧ Below w.heap.size w w' := by
  obtain ⟨k, c, g, l⟩ := n
  obtain ⟨d, hd⟩ : ∃ d : Nat, l.length = d := ⟨_, rfl⟩
  obtain ⟨x, cap, rfl, hlc, hcm⟩ := hv.at_len hd
  unfold maxLen at hcm
  have HR : Hid (ncheck ⟨k, c, g, l⟩ = if 4096 < d then 2 else if g = true ∧ 0 < d then 1 else 0) := by
    show ncheck ⟨k, c, g, l⟩ = _
    unfold ncheck
    rw [hd]
  clear hv hd
  by_cases h1 : 4096 < d
  · go_enter Tryz.func60, Tryz.ntmps60
    go_wp2
    go_ret
    exact ⟨by rw [HR.out, if_pos h1]; rfl, (Below.refl _ _).alloc (Nat.le_refl _) _⟩
  · cases g with
    | false =>
      go_enter Tryz.func60, Tryz.ntmps60
      go_wp2
      go_ret
      exact ⟨by rw [HR.out, if_neg h1]; rfl, (Below.refl _ _).alloc (Nat.le_refl _) _⟩
    | true =>
      by_cases h2 : 0 < d
      · go_enter Tryz.func60, Tryz.ntmps60
        go_wp2
        go_ret
        exact ⟨by rw [HR.out, if_neg h1, if_pos ⟨trivial, h2⟩]; rfl, (Below.refl _ _).alloc (Nat.le_refl _) _⟩
      · go_enter Tryz.func60, Tryz.ntmps60
        go_wp2
        go_ret
        exact ⟨by rw [HR.out, if_neg h1, if_neg (fun h => h2 h.2)]; rfl, (Below.refl _ _).alloc (Nat.le_refl _) _⟩

/-- A needle in a box of its own. -/
def Boxed (w : World) (g : Nat) (n : Ndl) (v : Value) : Prop :=
  w.cell? ⟨g, 0, none⟩ = some (.int .u64 (n.key : Int)) ∧ w.cell? ⟨g, 1, none⟩ = some (.int .u32 (n.cookie : Int)) ∧ w.cell? ⟨g, 2, none⟩ = some (.bool n.gone) ∧ w.cell? ⟨g, 3, none⟩ = some v
theorem Boxed.new (w : World) (n : Ndl) (v : Value) (T : TypeId) : Boxed (w.alloc (ncells n v T)) w.heap.size n v := by
  refine ⟨?_, ?_, ?_, ?_⟩ <;> go_simp
theorem Boxed.mono {w w' : World} {g B : Nat} {n : Ndl} {v : Value} (h : Boxed w g n v) (hb : Below B w w') (hg : g < B) : Boxed w' g n v :=
  ⟨(hb.cell hg).trans h.1, (hb.cell hg).trans h.2.1, (hb.cell hg).trans h.2.2.1, (hb.cell hg).trans h.2.2.2⟩

end Go.Proofs.YtcpoaofcfefgaaaGreatDoor.Nd
end

section
namespace Go.Cor
open Go.RowKit

theorem zeroCells_u8 (m : Nat) : Builtin.zeroCells #[.int .u8 0] m = (bvs (zerosN m)).toArray := by
  apply Array.ext
  · simp [Builtin.zeroCells, zerosN]
  · intro i h1 h2
    simp [Builtin.zeroCells, bvs, zerosN, Nat.mod_one]

theorem run_append_zeros {P : Program} (w : World) (base : Nat) (T N U ty : TypeId) (i : TypeInfo) (ht : P.underlying T = some (.slice U)) (hN : P.underlying N = some (.int .i64)) (hi : P.info? U = some i) (hz : i.zero = some (.int .u8 0)) (hsize : i.size = 1) (hby : i.bytes = 1)
    (v : Value) (xs : List UInt8) (n : Nat) (hn : n = xs.length) (hown : w.ownsRow base U 1 v n (bvs xs)) (m : Nat) (hlen : xs.length + m ≤ 1099511627776) (hbase : base ≤ w.heap.size) :
    ∃ v' w', (Builtin.append_ #[T, N] ty #[v, .int .i64 (m : Int)]).run P w = .ok v' w' ∧ w'.ownsRow base U 1 v' (xs ++ zerosN m).length (bvs (xs ++ zerosN m)) ∧ w.grownBy w' v.ownBlock := by
  subst hn
  have has : (asInt (.int .i64 (m : Int))).run P w = .ok (m : Int) w := rfl
  have hw0 : IntKind.i64.wrap 0 = 0 := by decide
  have has0 : (asInt (.int .i64 0)).run P w = .ok 0 w := rfl
  have hwrap : IntKind.i64.wrap (m : Int) = (m : Int) := IntWalk.i64_in _ (by omega)
  have hneg : ¬ ((m : Int) < 0) := by omega
  have hbig : ¬ (281474976710656 < (m : Int)) := by omega
  have hz1 : (Value.int IntKind.u8 0).cells = #[.int .u8 0] := rfl
  have hl2 : (bvs (zerosN m)).length = m := by simp [zerosN]
  have hone := bvs_one (zerosN m)
  have hlen2 : (bvs (xs ++ zerosN m)).length = (xs ++ zerosN m).length * 1 := by simp
  have hll : (xs ++ zerosN m).length = xs.length + m := by simp [zerosN]
  by_cases hm : m = 0
  · subst hm
    have e0 : zerosN 0 = [] := rfl
    rw [e0, List.append_nil]
    refine ⟨v, w, ?_, hown, ⟨rfl, rfl, rfl, Nat.le_refl _, fun _ _ _ => rfl⟩⟩
    rcases hown.2 with ⟨rfl, h0⟩ | ⟨g, cap, cur, rfl, hbg, hg, hnc, hcm, hcs, htake⟩
    · simp [Builtin.append_, run_underlying ht, run_underlying hN, sizeOf, typeInfo, hi, has0, hw0]
    · simp [Builtin.append_, run_underlying ht, run_underlying hN, sizeOf, typeInfo, hi, hsize, hnc, storeCells, has0, hw0]
  · have hm0 : m * 1 ≠ 0 := by omega
    have grown : ∀ (old : Nat), ∀ (row : Option Nat),
        (w.drew.alloc (.cells ((bvs xs).toArray ++ (bvs (zerosN m)).toArray ++ Builtin.zeroCells #[.int .u8 0] (grownCap w (xs.length + m) old U - (xs.length + m))) U)).ownsRow base U 1
          (.slice (some ⟨w.heap.size, 0, none⟩) (xs.length + m) (grownCap w (xs.length + m) old U)) (xs.length + m) (bvs (xs ++ zerosN m)) ∧
        w.grownBy (w.drew.alloc (.cells ((bvs xs).toArray ++ (bvs (zerosN m)).toArray ++ Builtin.zeroCells #[.int .u8 0] (grownCap w (xs.length + m) old U - (xs.length + m))) U)) row := by
      intro old row
      have hge := grownCap_ge w (xs.length + m) old U
      have hcm : grownCap w (xs.length + m) old U ≤ maxLen := grownCap_le_maxLen w (xs.length + m) old U (by unfold maxLen; omega)
      refine ⟨⟨by rw [hlen2, hll], .inr ⟨w.heap.size, _, _, rfl, hbase, heap_alloc_new w.drew _, hge, hcm, ?_, ?_⟩⟩, ⟨rfl, rfl, rfl, by simp, fun k hk _ => heap_alloc_old w.drew _ hk⟩⟩
      · simp only [Array.size_append, List.size_toArray, size_zeroCells, length_bvs, hl2]
        simp
        omega
      · simp only [Array.toList_append, List.append_assoc]
        rw [← List.append_assoc, ← bvs_append]
        exact List.take_left' (by rw [length_bvs, hll, Nat.mul_one])
    rw [hll]
    rcases hown.2 with ⟨rfl, h0⟩ | ⟨g, cap, cur, rfl, hbg, hg, hnc, hcm, hcs, htake⟩
    · obtain rfl : xs = [] := List.eq_nil_of_length_eq_zero h0
      have h63 : ¬ (9223372036854775807 < (m : Int)) := by omega
      have h48 : ¬ (281474976710656 < Builtin.nextslicecap m 0) := by rw [nextslicecap_zero (by omega)]; omega
      have hgr := grown 0 (Value.ownBlock (.slice none 0 0))
      simp only [List.length_nil, Nat.zero_add] at hgr ⊢
      refine ⟨_, _, ?_, hgr.1, hgr.2⟩
      simp [Builtin.append_, run_underlying ht, run_underlying hN, sizeOf, typeInfo, zeroValue, hi, hz, hsize, hby, has, hwrap, hneg, hbig, hm, h63, h48, Question.forced, run_firstCells_none, newRow, grownCap, hz1, zeroCells_u8, bvs_nil]
    · by_cases hroom : xs.length + m ≤ cap
      · have hst := run_storeCells_at P g (xs.length * 1) U (bvs (zerosN m)) 0 cur w hg (by rw [hl2, hcs]; omega) hone
        simp only [Nat.add_zero] at hst
        refine ⟨.slice (some ⟨g, 0, none⟩) (xs.length + m) cap, w.setRow g (cur.toList.take (xs.length * 1) ++ bvs (zerosN m) ++ cur.toList.drop (xs.length * 1 + (bvs (zerosN m)).length)).toArray, ?_, ?_, ?_⟩
        · simp only [Nat.mul_one] at hst ⊢
          simp [Builtin.append_, run_underlying ht, run_underlying hN, sizeOf, typeInfo, zeroValue, hi, hz, hsize, hby, has, hwrap, hneg, hbig, hm, hroom, Addr.add_lit, hz1, zeroCells_u8]
          rw [hst]
          simp
        · refine ⟨by rw [hlen2, hll], .inr ⟨g, cap, _, rfl, hbg, setRow_heap w g cur _ U _ hg, hroom, hcm, ?_, ?_⟩⟩
          · simp only [List.size_toArray, List.length_append, List.length_take, List.length_drop, Array.length_toList, hl2]
            omega
          · rw [htake, bvs_append]
            exact List.take_left' (by rw [List.length_append, length_bvs, hl2, Nat.mul_one])
        · exact ⟨rfl, rfl, rfl, by simp, fun k _ hk => setRow_other w g k _ (fun e => hk (by simp [Value.ownBlock, e]))⟩
      · have holds : ∀ j u, (bvs xs)[j]? = some u → w.cell? ((⟨g, 0, none⟩ : Addr).add j) = some u := hown.cells (g := g) rfl
        have h63 : ¬ (9223372036854775807 < ((xs.length : Int) + (m : Int))) := by omega
        have h48 : ¬ (281474976710656 < Builtin.nextslicecap (xs.length + m) cap) := by
          have h := growslice_fits (need := xs.length + m) (old := cap) (bytes := 1) (by omega) (by omega)
          omega
        have hfo := run_firstCells_some (P := P) w.drew 1 xs.length ⟨g, 0, none⟩ xs.length cap (bvs xs) (by simp) (by simpa using holds)
        have hgr := grown cap (Value.ownBlock (.slice (some ⟨g, 0, none⟩) xs.length cap))
        refine ⟨_, _, ?_, hgr.1, hgr.2⟩
        simp [Builtin.append_, run_underlying ht, run_underlying hN, sizeOf, typeInfo, zeroValue, hi, hz, hsize, hby, has, hwrap, hneg, hbig, hm, hroom, h63, h48, Question.forced, hfo, newRow, grownCap, hz1, zeroCells_u8]

theorem wpList_append_zeros {P : Program} {w : World} {ops : Array Oper} {rest : List Oper} {o : Oper} {a : Act} {Q : Exit → Act → World → Prop} (hw : Region.wanted o (yielded ops a.tmps) = true) (s x : Operand) (T N : TypeId)
    (ho : o.op = .call { callee := .builtin .append, args := #[s, x], argTypes := #[T, N] })
    (base : Nat) (U : TypeId) (i : TypeInfo) (ht : P.underlying T = some (.slice U)) (hN : P.underlying N = some (.int .i64)) (hi : P.info? U = some i) (hz : i.zero = some (.int .u8 0)) (hsize : i.size = 1) (hby : i.bytes = 1)
    (v : Value) (xs : List UInt8) (n : Nat) (hs : a.eval s = v) (hown : w.ownsRow base U 1 v n (bvs xs)) (hn : n = xs.length) (m : Nat) (hx : a.eval x = .int .i64 (m : Int)) (hlen : xs.length + m ≤ 1099511627776) (hbase : base ≤ w.heap.size)
    (h : ∀ v' w', w'.ownsRow base U 1 v' (xs ++ zerosN m).length (bvs (xs ++ zerosN m)) → Below base w w' → wpList P ops Q rest (a.put o.dst v') w') : wpList P ops Q (o :: rest) a w := by
  refine BigFrame.wpList_want hw fun K hK => ?_
  obtain ⟨v', w', hr, h2, h3⟩ := run_append_zeros (P := P) w base T N U o.type i ht hN hi hz hsize hby v xs n hn hown m hlen hbase
  unfold Oper.wp execOp
  simp only [ho, resolve, invoke, builtin, Sem.run_bind, Sem.run_pure, Result.andThen_ok, List.map_toArray, List.map_cons, List.map_nil, hs, hx, hr]
  exact hK _ _ (h v' w' h2 ((Below.refl _ _).grown h3 hbase fun j hj => (hown.lt j hj).1))

end Go.Cor
end

section
namespace Go.Proofs.YtcpoaofcfefgaaaGreatDoor.Nd
open Go.RowKit Go.Cor

theorem flag_great (g : Bool) : flagN g ≤ great ((4 : Nat) : Int) := by cases g <;> decide
theorem front_of {k c d : Nat} {g : Bool} {l : List UInt8} (h : l.length = d) : front ⟨k, c, g, l⟩ = le 1313162572 4 ++ le (flagN g) 4 ++ le k 8 ++ le c 4 ++ le d 4 := by
  unfold front
  rw [h]
theorem front_fin {w : World} {B : Nat} {U : TypeId} {v : Value} {F : List UInt8} {k c d f : Nat} (e : F = le 1313162572 4 ++ le f 4 ++ le k 8 ++ le c 4 ++ le d 4)
    (h : w.ownsRow (B + 1) U 1 v ((le 1313162572 4).length + ((le f 4).length + ((le k 8).length + ((le c 4).length + (le d 4).length)))) (bvs (le 1313162572 4 ++ (le f 4 ++ (le k 8 ++ (le c 4 ++ le d 4)))))) :
    w.ownsRow B U 1 v 24 (bvs F) := by
  have h' := ownsRow_base h (Nat.le_succ B)
  simp only [length_le] at h'
  rw [e]
  simpa only [List.append_assoc] using h'

set_option maxHeartbeats 1000000 in
theorem summed_any (n : Ndl) (v : Value) (w : World) (hv : IsB w v n.data) (hf : n.fits) (hd : n.data.length ≤ 4096) :
    Calls Tryz.prog 114 #[nval n v] w fun e w' => ∃ v', e = .returned v' ∧ w'.ownsRow w.heap.size 5 1 v' 24 (bvs (front n)) ∧ Below w.heap.size w w' := by
  obtain ⟨i0, hi, hz0, hz1, hz2⟩ := info_parts Tryz.infoU8
  obtain ⟨k, c, g, l⟩ := n
  obtain ⟨hk, hc⟩ := hf
  obtain ⟨d, hl⟩ : ∃ d : Nat, l.length = d := ⟨_, rfl⟩
  obtain ⟨x, cap, rfl, hlc, hcm⟩ := hv.at_len hl
  have HF := Lib.hid (front_of (k := k) (c := c) (g := g) hl)
  have hd' : d ≤ 4096 := by rw [← hl]; exact hd
  have HK8 := Lib.hid (show k ≤ great ((8 : Nat) : Int) from Nat.le_of_lt_succ hk)
  have HC4 := Lib.hid (show c ≤ great ((4 : Nat) : Int) from Nat.le_of_lt_succ hc)
  have HD4 := Lib.hid (show d ≤ great ((4 : Nat) : Int) from Nat.le_trans hd' (by decide))
  have HG := Lib.hid (flag_great g)
  have hc' : c < 4294967296 := hc
  clear hv hl hd hk hc
  cases g
  · go_enter Tryz.func114, Tryz.ntmps114
    go_wp2_with fail
    refine (num_any 1313162572 4 _ (.inr (.inr (.inl rfl))) (by decide)).mono ?_
    rintro e w1 ⟨v1, rfl, hown1, hb1⟩
    have hs1 : w.heap.size + 1 ≤ w1.heap.size := Nat.le_trans (by simp) hb1.size
    have HX1 := Lib.hid ((Boxed.new w _ _ 65).mono hb1 (by simp) : Boxed w1 w.heap.size ⟨k, c, false, l⟩ (.slice x d cap))
    have HB1 := Lib.hid ((((Below.refl w.heap.size w).alloc (Nat.le_refl _) _).trans (hb1.mono (by simp))) : Below w.heap.size w w1)
    have HO1 := Lib.hid (ownsRow_base hown1 (show w.heap.size + 1 ≤ _ from by simp))
    clear hown1 hb1
    go_wp2_with fail
    refine (num_any (flagN false) 4 _ (.inr (.inr (.inl rfl))) HG.out).mono ?_
    rintro e w2 ⟨v2, rfl, hown2, hb2⟩
    have hs2 : w.heap.size + 1 ≤ w2.heap.size := Nat.le_trans hs1 hb2.size
    have HX2 := Lib.hid (HX1.out.mono hb2 hs1)
    have HB2 := Lib.hid (HB1.out.trans (hb2.mono (Nat.le_of_succ_le hs1)))
    have HO2 := Lib.hid (ownsRow_below HO1.out hb2 (Nat.le_refl _))
    have HN := Lib.hid (IsB.own hown2 (length_le _ _).symm)
    clear hown2 hb2 HX1 HO1 HB1 hs1
    go_wp2_with (at_builtin; refine wpList_append_B (by rfl) _ _ 53 rfl (w.heap.size + 1) 5 i0 Tryz.underlying53 hi hz0 hz1 hz2 _ (le 1313162572 4) _ rfl HO2.out ((length_le _ _).symm) _ (le (flagN false) 4) rfl (HN.out) (by simp [length_le]) hs2 ?_)
    intro v3 w3 hown3 hb3
    have hs3 : w.heap.size + 1 ≤ w3.heap.size := Nat.le_trans hs2 hb3.size
    have HX3 := Lib.hid (HX2.out.mono hb3 (Nat.lt_succ_self _))
    have HB3 := Lib.hid (HB2.out.trans (hb3.mono (Nat.le_succ _)))
    have HO3 := Lib.hid hown3
    clear hown3 hb3 HX2 HO2 HB2 hs2
    obtain ⟨q0, q1, q2, q3⟩ := HX3.out
    go_wp2_with fail
    refine (num_any k 8 _ (.inr (.inr (.inr rfl))) HK8.out).mono ?_
    rintro e w4 ⟨v4, rfl, hown4, hb4⟩
    have hs4 : w.heap.size + 1 ≤ w4.heap.size := Nat.le_trans hs3 hb4.size
    have HX4 := Lib.hid (HX3.out.mono hb4 hs3)
    have HB4 := Lib.hid (HB3.out.trans (hb4.mono (Nat.le_of_succ_le hs3)))
    have HO4 := Lib.hid (ownsRow_below HO3.out hb4 (Nat.le_refl _))
    have HN := Lib.hid (IsB.own hown4 (length_le _ _).symm)
    clear hown4 hb4 HX3 HO3 HB3 hs3
    clear q0 q1 q2 q3
    go_wp2_with (at_builtin; refine wpList_append_B (by rfl) _ _ 53 rfl (w.heap.size + 1) 5 i0 Tryz.underlying53 hi hz0 hz1 hz2 _ ((le 1313162572 4) ++ (le (flagN false) 4)) _ rfl HO4.out (rfl) _ (le k 8) rfl (HN.out) (by simp [length_le]) hs4 ?_)
    intro v5 w5 hown5 hb5
    have hs5 : w.heap.size + 1 ≤ w5.heap.size := Nat.le_trans hs4 hb5.size
    have HX5 := Lib.hid (HX4.out.mono hb5 (Nat.lt_succ_self _))
    have HB5 := Lib.hid (HB4.out.trans (hb5.mono (Nat.le_succ _)))
    have HO5 := Lib.hid hown5
    clear hown5 hb5 HX4 HO4 HB4 hs4
    obtain ⟨q0, q1, q2, q3⟩ := HX5.out
    go_wp2_with fail
    refine (num_any c 4 _ (.inr (.inr (.inl rfl))) HC4.out).mono ?_
    rintro e w6 ⟨v6, rfl, hown6, hb6⟩
    have hs6 : w.heap.size + 1 ≤ w6.heap.size := Nat.le_trans hs5 hb6.size
    have HX6 := Lib.hid (HX5.out.mono hb6 hs5)
    have HB6 := Lib.hid (HB5.out.trans (hb6.mono (Nat.le_of_succ_le hs5)))
    have HO6 := Lib.hid (ownsRow_below HO5.out hb6 (Nat.le_refl _))
    have HN := Lib.hid (IsB.own hown6 (length_le _ _).symm)
    clear hown6 hb6 HX5 HO5 HB5 hs5
    clear q0 q1 q2 q3
    go_wp2_with (at_builtin; refine wpList_append_B (by rfl) _ _ 53 rfl (w.heap.size + 1) 5 i0 Tryz.underlying53 hi hz0 hz1 hz2 _ (((le 1313162572 4) ++ (le (flagN false) 4)) ++ (le k 8)) _ rfl HO6.out (rfl) _ (le c 4) rfl (HN.out) (by simp [length_le]) hs6 ?_)
    intro v7 w7 hown7 hb7
    have hs7 : w.heap.size + 1 ≤ w7.heap.size := Nat.le_trans hs6 hb7.size
    have HX7 := Lib.hid (HX6.out.mono hb7 (Nat.lt_succ_self _))
    have HB7 := Lib.hid (HB6.out.trans (hb7.mono (Nat.le_succ _)))
    have HO7 := Lib.hid hown7
    clear hown7 hb7 HX6 HO6 HB6 hs6
    obtain ⟨q0, q1, q2, q3⟩ := HX7.out
    go_wp2_with fail
    refine (num_any d 4 _ (.inr (.inr (.inl rfl))) HD4.out).mono ?_
    rintro e w8 ⟨v8, rfl, hown8, hb8⟩
    have hs8 : w.heap.size + 1 ≤ w8.heap.size := Nat.le_trans hs7 hb8.size
    have HX8 := Lib.hid (HX7.out.mono hb8 hs7)
    have HB8 := Lib.hid (HB7.out.trans (hb8.mono (Nat.le_of_succ_le hs7)))
    have HO8 := Lib.hid (ownsRow_below HO7.out hb8 (Nat.le_refl _))
    have HN := Lib.hid (IsB.own hown8 (length_le _ _).symm)
    clear hown8 hb8 HX7 HO7 HB7 hs7
    clear q0 q1 q2 q3
    go_wp2_with (at_builtin; refine wpList_append_B (by rfl) _ _ 53 rfl (w.heap.size + 1) 5 i0 Tryz.underlying53 hi hz0 hz1 hz2 _ ((((le 1313162572 4) ++ (le (flagN false) 4)) ++ (le k 8)) ++ (le c 4)) _ rfl HO8.out (rfl) _ (le d 4) rfl (HN.out) (by simp [length_le]) hs8 ?_)
    intro v9 w9 hown9 hb9
    have hs9 : w.heap.size + 1 ≤ w9.heap.size := Nat.le_trans hs8 hb9.size
    have HX9 := Lib.hid (HX8.out.mono hb9 (Nat.lt_succ_self _))
    have HB9 := Lib.hid (HB8.out.trans (hb9.mono (Nat.le_succ _)))
    have HO9 := Lib.hid hown9
    clear hown9 hb9 HX8 HO8 HB8 hs8
    go_wp2
    go_ret
    exact ⟨_, rfl, front_fin HF.out HO9.out, HB9.out⟩
  · go_enter Tryz.func114, Tryz.ntmps114
    go_wp2_with fail
    refine (num_any 1313162572 4 _ (.inr (.inr (.inl rfl))) (by decide)).mono ?_
    rintro e w1 ⟨v1, rfl, hown1, hb1⟩
    have hs1 : w.heap.size + 1 ≤ w1.heap.size := Nat.le_trans (by simp) hb1.size
    have HX1 := Lib.hid ((Boxed.new w _ _ 65).mono hb1 (by simp) : Boxed w1 w.heap.size ⟨k, c, true, l⟩ (.slice x d cap))
    have HB1 := Lib.hid ((((Below.refl w.heap.size w).alloc (Nat.le_refl _) _).trans (hb1.mono (by simp))) : Below w.heap.size w w1)
    have HO1 := Lib.hid (ownsRow_base hown1 (show w.heap.size + 1 ≤ _ from by simp))
    clear hown1 hb1
    go_wp2_with fail
    refine (num_any (flagN true) 4 _ (.inr (.inr (.inl rfl))) HG.out).mono ?_
    rintro e w2 ⟨v2, rfl, hown2, hb2⟩
    have hs2 : w.heap.size + 1 ≤ w2.heap.size := Nat.le_trans hs1 hb2.size
    have HX2 := Lib.hid (HX1.out.mono hb2 hs1)
    have HB2 := Lib.hid (HB1.out.trans (hb2.mono (Nat.le_of_succ_le hs1)))
    have HO2 := Lib.hid (ownsRow_below HO1.out hb2 (Nat.le_refl _))
    have HN := Lib.hid (IsB.own hown2 (length_le _ _).symm)
    clear hown2 hb2 HX1 HO1 HB1 hs1
    go_wp2_with (at_builtin; refine wpList_append_B (by rfl) _ _ 53 rfl (w.heap.size + 1) 5 i0 Tryz.underlying53 hi hz0 hz1 hz2 _ (le 1313162572 4) _ rfl HO2.out ((length_le _ _).symm) _ (le (flagN true) 4) rfl (HN.out) (by simp [length_le]) hs2 ?_)
    intro v3 w3 hown3 hb3
    have hs3 : w.heap.size + 1 ≤ w3.heap.size := Nat.le_trans hs2 hb3.size
    have HX3 := Lib.hid (HX2.out.mono hb3 (Nat.lt_succ_self _))
    have HB3 := Lib.hid (HB2.out.trans (hb3.mono (Nat.le_succ _)))
    have HO3 := Lib.hid hown3
    clear hown3 hb3 HX2 HO2 HB2 hs2
    obtain ⟨q0, q1, q2, q3⟩ := HX3.out
    go_wp2_with fail
    refine (num_any k 8 _ (.inr (.inr (.inr rfl))) HK8.out).mono ?_
    rintro e w4 ⟨v4, rfl, hown4, hb4⟩
    have hs4 : w.heap.size + 1 ≤ w4.heap.size := Nat.le_trans hs3 hb4.size
    have HX4 := Lib.hid (HX3.out.mono hb4 hs3)
    have HB4 := Lib.hid (HB3.out.trans (hb4.mono (Nat.le_of_succ_le hs3)))
    have HO4 := Lib.hid (ownsRow_below HO3.out hb4 (Nat.le_refl _))
    have HN := Lib.hid (IsB.own hown4 (length_le _ _).symm)
    clear hown4 hb4 HX3 HO3 HB3 hs3
    clear q0 q1 q2 q3
    go_wp2_with (at_builtin; refine wpList_append_B (by rfl) _ _ 53 rfl (w.heap.size + 1) 5 i0 Tryz.underlying53 hi hz0 hz1 hz2 _ ((le 1313162572 4) ++ (le (flagN true) 4)) _ rfl HO4.out (rfl) _ (le k 8) rfl (HN.out) (by simp [length_le]) hs4 ?_)
    intro v5 w5 hown5 hb5
    have hs5 : w.heap.size + 1 ≤ w5.heap.size := Nat.le_trans hs4 hb5.size
    have HX5 := Lib.hid (HX4.out.mono hb5 (Nat.lt_succ_self _))
    have HB5 := Lib.hid (HB4.out.trans (hb5.mono (Nat.le_succ _)))
    have HO5 := Lib.hid hown5
    clear hown5 hb5 HX4 HO4 HB4 hs4
    obtain ⟨q0, q1, q2, q3⟩ := HX5.out
    go_wp2_with fail
    refine (num_any c 4 _ (.inr (.inr (.inl rfl))) HC4.out).mono ?_
    rintro e w6 ⟨v6, rfl, hown6, hb6⟩
    have hs6 : w.heap.size + 1 ≤ w6.heap.size := Nat.le_trans hs5 hb6.size
    have HX6 := Lib.hid (HX5.out.mono hb6 hs5)
    have HB6 := Lib.hid (HB5.out.trans (hb6.mono (Nat.le_of_succ_le hs5)))
    have HO6 := Lib.hid (ownsRow_below HO5.out hb6 (Nat.le_refl _))
    have HN := Lib.hid (IsB.own hown6 (length_le _ _).symm)
    clear hown6 hb6 HX5 HO5 HB5 hs5
    clear q0 q1 q2 q3
    go_wp2_with (at_builtin; refine wpList_append_B (by rfl) _ _ 53 rfl (w.heap.size + 1) 5 i0 Tryz.underlying53 hi hz0 hz1 hz2 _ (((le 1313162572 4) ++ (le (flagN true) 4)) ++ (le k 8)) _ rfl HO6.out (rfl) _ (le c 4) rfl (HN.out) (by simp [length_le]) hs6 ?_)
    intro v7 w7 hown7 hb7
    have hs7 : w.heap.size + 1 ≤ w7.heap.size := Nat.le_trans hs6 hb7.size
    have HX7 := Lib.hid (HX6.out.mono hb7 (Nat.lt_succ_self _))
    have HB7 := Lib.hid (HB6.out.trans (hb7.mono (Nat.le_succ _)))
    have HO7 := Lib.hid hown7
    clear hown7 hb7 HX6 HO6 HB6 hs6
    obtain ⟨q0, q1, q2, q3⟩ := HX7.out
    go_wp2_with fail
    refine (num_any d 4 _ (.inr (.inr (.inl rfl))) HD4.out).mono ?_
    rintro e w8 ⟨v8, rfl, hown8, hb8⟩
    have hs8 : w.heap.size + 1 ≤ w8.heap.size := Nat.le_trans hs7 hb8.size
    have HX8 := Lib.hid (HX7.out.mono hb8 hs7)
    have HB8 := Lib.hid (HB7.out.trans (hb8.mono (Nat.le_of_succ_le hs7)))
    have HO8 := Lib.hid (ownsRow_below HO7.out hb8 (Nat.le_refl _))
    have HN := Lib.hid (IsB.own hown8 (length_le _ _).symm)
    clear hown8 hb8 HX7 HO7 HB7 hs7
    clear q0 q1 q2 q3
    go_wp2_with (at_builtin; refine wpList_append_B (by rfl) _ _ 53 rfl (w.heap.size + 1) 5 i0 Tryz.underlying53 hi hz0 hz1 hz2 _ ((((le 1313162572 4) ++ (le (flagN true) 4)) ++ (le k 8)) ++ (le c 4)) _ rfl HO8.out (rfl) _ (le d 4) rfl (HN.out) (by simp [length_le]) hs8 ?_)
    intro v9 w9 hown9 hb9
    have hs9 : w.heap.size + 1 ≤ w9.heap.size := Nat.le_trans hs8 hb9.size
    have HX9 := Lib.hid (HX8.out.mono hb9 (Nat.lt_succ_self _))
    have HB9 := Lib.hid (HB8.out.trans (hb9.mono (Nat.le_succ _)))
    have HO9 := Lib.hid hown9
    clear hown9 hb9 HX8 HO8 HB8 hs8
    go_wp2
    go_ret
    exact ⟨_, rfl, front_fin HF.out HO9.out, HB9.out⟩


set_option maxHeartbeats 2000000 in
theorem put_okN (n : Ndl) (v : Value) (w : World) (hv : IsB w v n.data) (hf : n.fits) (h : ncheck n = 0) :
    Calls Tryz.prog 91 #[nval n v] w fun e w' => ∃ v', e = .returned (.tuple #[v', .nilIface]) ∧ w'.ownsRow w.heap.size 5 1 v' (nbytes n).length (bvs (nbytes n)) ∧ Below w.heap.size w w' := by
  obtain ⟨i0, hi, hz0, hz1, hz2⟩ := info_parts Tryz.infoU8
  have hd := (ncheck_ok h).1
  obtain ⟨F, hF⟩ : ∃ F, F = front n := ⟨_, rfl⟩
  obtain ⟨s, hs⟩ : ∃ s, s = crc (F ++ n.data) := ⟨_, rfl⟩
  have hs4 : s < 4294967296 := by rw [hs]; exact crc_lt _
  have HS4 := Lib.hid (show s ≤ great ((4 : Nat) : Int) from Nat.le_of_lt_succ hs4)
  have hNB : nbytes n = F ++ le s 4 ++ zerosN 4 ++ n.data ++ zerosN (padn n.data.length) := by rw [hs, hF]; rfl
  have hFl : F.length = 24 := by rw [hF]; exact length_front n
  have HFl := Lib.hid hFl
  have HF := Lib.hid hF
  have HC := Lib.hid h
  have HFi := Lib.hid hf
  obtain ⟨k, c, g, l⟩ := n
  have HS := Lib.hid (show s = crc (F ++ l) from hs)
  have HNB := Lib.hid (show nbytes ⟨k, c, g, l⟩ = F ++ le s 4 ++ zerosN 4 ++ l ++ zerosN (padn l.length) from hNB)
  obtain ⟨d, hl⟩ : ∃ d : Nat, l.length = d := ⟨_, rfl⟩
  have HL := Lib.hid hl
  have HV := Lib.hid hv
  obtain ⟨x, cap, rfl, hlc, hcm⟩ := hv.at_len hl
  have hd' : d ≤ 4096 := by rw [← hl]; exact hd
  have HZ := Lib.hid (nsize_nat hd')
  have HP := Lib.hid (pad_padn d)
  have hp8 := padn_lt d
  obtain ⟨p, hp⟩ : ∃ p, p = padn d := ⟨_, rfl⟩
  rw [← hp] at HZ HP hp8
  have HPD := Lib.hid hp
  obtain ⟨S, hS⟩ : ∃ S : Nat, S = 32 + d + p := ⟨_, rfl⟩
  rw [← hS] at HZ
  have hS' : S ≤ 5000 := by omega
  have hmk : ∀ wx : World, (Instr.makeSlice 53 (.int .i64 0) (.int .i64 (S : Int))).run Tryz.prog wx = .ok (.slice (some ⟨wx.heap.size, 0, none⟩) 0 S) (wx.alloc (.cells (madeCells #[.int .u8 0] S) 5)) := fun wx => by
    have := run_make (P := Tryz.prog) wx 53 5 i0 (.int .u8 0) Tryz.underlying53 hi hz0 .i64 .i64 0 (S : Int) (by omega) (by omega) (by rw [hz2]; omega) (by omega)
    rw [this, hz1]
    simp [Value.cells]
  clear hv hd hF hs hl hf h hFl hp hS hNB
  go_enter Tryz.func91, Tryz.ntmps91
  go_wp2_with fail
  refine (check_any ⟨k, c, g, l⟩ _ _ (HV.out.mono ((Below.refl _ _).alloc (Nat.le_refl _) _) (Nat.le_refl _))).mono ?_
  rintro e w1 ⟨rfl, hb1⟩
  rw [HC.out, cerr_0]
  have hs1 : w.heap.size + 1 ≤ w1.heap.size := Nat.le_trans (by simp) hb1.size
  have HX1 := Lib.hid ((Boxed.new w _ _ 65).mono hb1 (by simp) : Boxed w1 w.heap.size ⟨k, c, g, l⟩ (.slice x d cap))
  have HB1 := Lib.hid ((((Below.refl w.heap.size w).alloc (Nat.le_refl _) _).trans (hb1.mono (by simp))) : Below w.heap.size w w1)
  have HV1 := Lib.hid (HV.out.mono HB1.out (Nat.le_refl _))
  clear hb1
  obtain ⟨q0, q1, q2, q3⟩ := HX1.out
  go_wp2_with fail
  refine (summed_any ⟨k, c, g, l⟩ _ _ HV1.out HFi.out (by show l.length ≤ 4096; rw [HL.out]; exact hd')).mono ?_
  rintro e w2 ⟨v2, rfl, hown2, hb2⟩
  have hs2 : w.heap.size + 1 ≤ w2.heap.size := Nat.le_trans hs1 hb2.size
  have HX2 := Lib.hid (HX1.out.mono hb2 hs1)
  have HB2 := Lib.hid (HB1.out.trans (hb2.mono (Nat.le_of_succ_le hs1)))
  have HV2 := Lib.hid (HV.out.mono HB2.out (Nat.le_refl _))
  have HF2 := Lib.hid (show IsB w2 v2 F from by rw [HF.out]; exact IsB.own hown2 (length_front _).symm)
  clear q0 q1 q2 q3 hown2 hb2 HX1 HB1 HV1 hs1
  obtain ⟨q0, q1, q2, q3⟩ := HX2.out
  go_wp2_with fail
  refine (size_any (d : Int) _ (by omega) (by omega)).mono ?_
  rintro e w' ⟨rfl, rfl⟩
  rw [HZ.out]
  have hb3 : Below w2.heap.size w2 (w2.alloc (.cells (madeCells #[.int .u8 0] S) 5)) := (Below.refl _ _).alloc (Nat.le_refl _) _
  have HS3 := Lib.hid hb3.size
  have HO3 := Lib.hid (World.ownsRow_made (base := w2.heap.size) (e := 5) (size := 1) w2 (madeCells #[.int .u8 0] S) S (Nat.le_refl _) (by unfold maxLen; omega) (by simp [size_madeCells]))
  have HB3 := Lib.hid hb3
  have HF3 := Lib.hid (HF2.out.mono hb3 (Nat.le_refl _))
  clear hb3 q0 q1 q2 q3
  go_wp2_with (at_builtin; refine wpList_append_B (by rfl) _ _ 53 rfl w2.heap.size 5 i0 Tryz.underlying53 hi hz0 hz1 hz2 _ [] _ rfl HO3.out rfl _ F rfl HF3.out (by rw [HFl.out]; decide) HS3.out ?_)
  intro v4 w4 hown4 hb4
  have HO4 := Lib.hid (show w4.ownsRow w2.heap.size 5 1 v4 F.length (bvs F) from by simpa using hown4)
  have HB4 := Lib.hid (HB3.out.trans hb4)
  clear hown4 hb4 HB3 HS3 HO3 HF3
  obtain ⟨q0, q1, q2, q3⟩ := HX2.out.mono HB4.out hs2
  go_wp2_with fail
  refine (sumOf_any _ _ F l _ (HF2.out.mono HB4.out (Nat.le_refl _)) (HV2.out.mono HB4.out (Nat.le_refl _)) (by rw [HFl.out]; decide) (by rw [HL.out]; omega)).mono ?_
  rintro e w' ⟨rfl, rfl⟩
  rw [← HS.out]
  go_wp2_with fail
  refine (num_any s 4 _ (.inr (.inr (.inl rfl))) HS4.out).mono ?_
  rintro e w5 ⟨v5, rfl, hown5, hb5⟩
  have HN5 := Lib.hid (IsB.own hown5 (length_le _ _).symm)
  have HO5 := Lib.hid (ownsRow_below HO4.out hb5 (Nat.le_refl _))
  have HB5 := Lib.hid (HB4.out.trans (hb5.mono HB4.out.size))
  have HS5 := Lib.hid HB5.out.size
  clear q0 q1 q2 q3 hown5 hb5 HO4 HB4
  go_wp2_with (at_builtin; refine wpList_append_B (by rfl) _ _ 53 rfl w2.heap.size 5 i0 Tryz.underlying53 hi hz0 hz1 hz2 _ F _ rfl HO5.out rfl _ (le s 4) rfl HN5.out (by rw [HFl.out, length_le]; decide) HS5.out ?_)
  intro v6 w6 hown6 hb6
  obtain ⟨X6, hX6⟩ : ∃ X, X = F ++ le s 4 := ⟨_, rfl⟩
  have HO6 := Lib.hid (show w6.ownsRow w2.heap.size 5 1 v6 X6.length (bvs X6) from by rw [hX6]; simpa using hown6)
  have HL6 := Lib.hid (show X6.length = 28 from by rw [hX6, List.length_append, HFl.out, length_le])
  have HX6 := Lib.hid hX6
  have HB6 := Lib.hid (HB5.out.trans hb6)
  have HS6 := Lib.hid HB6.out.size
  clear hown6 hb6 hX6 HO5 HB5 HN5 HS5
  go_wp2_with (at_builtin; refine wpList_append_zeros (by rfl) _ _ 53 3 rfl w2.heap.size 5 i0 Tryz.underlying53 Tryz.underlying3 hi hz0 hz1 hz2 _ X6 _ rfl HO6.out rfl 4 rfl (by rw [HL6.out]; decide) HS6.out ?_)
  intro v7 w7 hown7 hb7
  obtain ⟨X7, hX7⟩ : ∃ X, X = X6 ++ zerosN 4 := ⟨_, rfl⟩
  have HO7 := Lib.hid (show w7.ownsRow w2.heap.size 5 1 v7 X7.length (bvs X7) from by rw [hX7]; simpa using hown7)
  have HL7 := Lib.hid (show X7.length = 32 from by rw [hX7, List.length_append, HL6.out, length_zerosN])
  have HX7 := Lib.hid hX7
  have HB7 := Lib.hid (HB6.out.trans hb7)
  have HS7 := Lib.hid HB7.out.size
  have HV7 := Lib.hid (HV2.out.mono HB7.out (Nat.le_refl _))
  clear hown7 hb7 hX7 HO6 HB6 HS6 HL6
  obtain ⟨q0, q1, q2, q3⟩ := HX2.out.mono HB7.out hs2
  go_wp2_with (at_builtin; refine wpList_append_B (by rfl) _ _ 53 rfl w2.heap.size 5 i0 Tryz.underlying53 hi hz0 hz1 hz2 _ X7 _ rfl HO7.out rfl _ l rfl HV7.out (by rw [HL7.out, HL.out]; omega) HS7.out ?_)
  intro v8 w8 hown8 hb8
  obtain ⟨X8, hX8⟩ : ∃ X, X = X7 ++ l := ⟨_, rfl⟩
  have HO8 := Lib.hid (show w8.ownsRow w2.heap.size 5 1 v8 X8.length (bvs X8) from by rw [hX8]; simpa using hown8)
  have HL8 := Lib.hid (show X8.length = 32 + d from by rw [hX8, List.length_append, HL7.out, HL.out])
  have HX8 := Lib.hid hX8
  have HB8 := Lib.hid (HB7.out.trans hb8)
  have HS8 := Lib.hid HB8.out.size
  clear hown8 hb8 hX8 HO7 HB7 HS7 HL7 HV7 q0 q1 q2 q3
  obtain ⟨q0, q1, q2, q3⟩ := HX2.out.mono HB8.out hs2
  go_wp2_with fail
  refine (pad_any (d : Int) _ (by omega) (by omega)).mono ?_
  rintro e w' ⟨rfl, rfl⟩
  rw [HP.out]
  go_wp2_with (at_builtin; refine wpList_append_zeros (by rfl) _ _ 53 3 rfl w2.heap.size 5 i0 Tryz.underlying53 Tryz.underlying3 hi hz0 hz1 hz2 _ X8 _ rfl HO8.out rfl p rfl (by rw [HL8.out]; omega) HS8.out ?_)
  intro v9 w9 hown9 hb9
  have HR := Lib.hid (show nbytes ⟨k, c, g, l⟩ = X8 ++ zerosN p from by rw [HNB.out, HX8.out, HX7.out, HX6.out, HPD.out, ← HL.out])
  have HO9 := Lib.hid (show w9.ownsRow w.heap.size 5 1 v9 (nbytes ⟨k, c, g, l⟩).length (bvs (nbytes ⟨k, c, g, l⟩)) from by
    rw [HR.out]
    exact ownsRow_base (show w9.ownsRow w2.heap.size 5 1 v9 (X8 ++ zerosN p).length (bvs (X8 ++ zerosN p)) from by simpa using hown9) (Nat.le_of_succ_le hs2))
  have HB9 := Lib.hid (HB2.out.trans ((HB8.out.trans hb9).mono (Nat.le_of_succ_le hs2)))
  clear hown9 hb9
  go_wp2
  go_ret2
  exact ⟨_, rfl, HO9.out, HB9.out⟩

end Go.Proofs.YtcpoaofcfefgaaaGreatDoor.Nd
end
