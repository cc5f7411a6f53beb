/- slices.Insert at positions, by contract. -/
import Derived.Test.YtbloedaidbfehaaSrch
import Derived.Lib.SliceRun
import Derived.Lib.Overlaps
import Derived.Deep.RegionLaw
import Derived.Deep.RegionHeld3
namespace Go.Proofs.Ytbloedaidbfehaa
open Go.RowKit Go.Cor


set_option maxRecDepth 100000 in
set_option maxHeartbeats 2000000 in
theorem walk_grow (V V0 VI SV V2 VD1 VD2 : Value) (i N k : Nat) (w w1 w2 w3 : World) (hi : i < N) (hl : N ≤ 1048576) (hkk : (N : Int) + 1 - (i : Int) = (k : Int)) (hne : ((i : Int) == (N : Int)) = false) (hgt : ¬ ((N : Int) + 1 ≤ (N : Int)))
    (hlen : ∀ W, (Builtin.len_ #[39] 3 #[V]).run Try.prog W = .ok (.int .i64 (N : Int)) W) (hcap : ∀ (W : World) (ty : TypeId), (Builtin.cap_ #[39] ty #[V]).run Try.prog W = .ok (goInt N) W)
    (hS1 : ∀ W, (Builtin.len_ #[39] 3 #[SV]).run Try.prog W = .ok (.int .i64 1) W)
    (hsI : ∀ W, (Instr.slice 39 V (some (.int .i64 (i : Int))) none none).run Try.prog W = .ok VI W)
    (hs0 : ∀ W, (Instr.slice 39 V none (some (.int .i64 (i : Int))) none).run Try.prog W = .ok V0 W)
    (hsD1 : ∀ W, (Instr.slice 39 V2 (some (.int .i64 (i : Int))) none none).run Try.prog W = .ok VD1 W)
    (hsD2 : ∀ W, (Instr.slice 39 V2 (some (.int .i64 ((i : Int) + 1))) none none).run Try.prog W = .ok VD2 W)
    (HAP : Hid ((Builtin.append_ #[39, 3] 39 #[V0, .int .i64 (k : Int)]).run Try.prog w = .ok V2 w1)) (x1 x2 : Value)
    (HC1 : Hid (∀ ty, (Builtin.copy_ #[39, 39] ty #[VD1, SV]).run Try.prog w1 = .ok x1 w2))
    (HC2 : Hid (∀ ty, (Builtin.copy_ #[39, 39] ty #[VD2, VI]).run Try.prog w2.drew = .ok x2 w3)) (hwr : IntKind.i64.wrap ((i : Int) + 1) = (i : Int) + 1) :
    Calls Try.prog 22 #[V, .int .i64 (i : Int), SV] w fun e w' => e = .returned V2 ∧ w' = w3 := by
  go_enter Try.func22, Try.ntmps22
  go_wp2_with (first | (at_builtin; refine Lib.wpList_append_run _ rfl _ _ 39 3 rfl _ _ rfl rfl _ _ HAP.out ?_) | (refine wpList_copy_run (o := ⟨some 45, _, _, _, _, _⟩) rfl _ _ 39 39 rfl _ _ rfl rfl (HC1.out _) ?_))
  go_region_held3 (fun _ => True) (trivial) (first | (refine step_copy_run rfl _ _ 39 39 rfl _ _ rfl rfl (HC2.out _) ?_))
  go_wp2
  go_ret
  exact ⟨rfl, rfl⟩

set_option maxRecDepth 100000 in
set_option maxHeartbeats 2000000 in
theorem walk_room (V V3 VI VS VD SV : Value) (i N cap : Nat) (w w2 w3 : World) (hi : i < N) (hl : N ≤ 1048576) (hne : ((i : Int) == (N : Int)) = false) (hgt : (N : Int) + 1 ≤ (cap : Int))
    (hlen : ∀ W, (Builtin.len_ #[39] 3 #[V]).run Try.prog W = .ok (.int .i64 (N : Int)) W) (hcap : ∀ (W : World) (ty : TypeId), (Builtin.cap_ #[39] ty #[V]).run Try.prog W = .ok (goInt cap) W)
    (hS1 : ∀ W, (Builtin.len_ #[39] 3 #[SV]).run Try.prog W = .ok (.int .i64 1) W)
    (hsI : ∀ W, (Instr.slice 39 V (some (.int .i64 (i : Int))) none none).run Try.prog W = .ok VI W)
    (hs3 : ∀ W, (Instr.slice 39 V none (some (.int .i64 ((N : Int) + 1))) none).run Try.prog W = .ok V3 W)
    (hsS : ∀ W, (Instr.slice 39 V3 (some (.int .i64 (i : Int))) none none).run Try.prog W = .ok VS W)
    (hsD : ∀ W, (Instr.slice 39 V3 (some (.int .i64 ((i : Int) + 1))) none none).run Try.prog W = .ok VD W)
    (hov : (callFunc 29 #[SV, VD]).run Try.prog w = .ok (.value (.bool false)) w) (x1 x2 : Value)
    (HC1 : Hid (∀ ty, (Builtin.copy_ #[39, 39] ty #[VD, VS]).run Try.prog w.drew = .ok x1 w2))
    (HC2 : Hid (∀ ty, (Builtin.copy_ #[39, 39] ty #[VS, SV]).run Try.prog w2 = .ok x2 w3)) (hwr : IntKind.i64.wrap ((i : Int) + 1) = (i : Int) + 1) :
    Calls Try.prog 22 #[V, .int .i64 (i : Int), SV] w fun e w' => e = .returned V3 ∧ w' = w3 := by
  go_enter Try.func22, Try.ntmps22
  go_wp2_with (simp only [hov])
  go_region_held3 (fun _ => True) (trivial) (first | (refine step_copy_run rfl _ _ 39 39 rfl _ _ rfl rfl (HC1.out _) ?_))
  go_wp2_with (refine wpList_copy_run (o := ⟨some 82, _, _, _, _, _⟩) rfl _ _ 39 39 rfl _ _ rfl rfl (HC2.out _) ?_)
  go_ret
  exact ⟨rfl, rfl⟩



theorem srcOf {w : World} {size : Nat} {ad : Addr} {n c : Nat} {cs : List Value} (h : IsX w size (.slice (some ad) n c) n cs) : ∀ j u, cs[j]? = some u → w.cell? (ad.add j) = some u := by
  intro j u hj
  obtain ⟨a', c', e', k1, k2, k3, k4, k5⟩ := h
  cases e'
  have hjl := (List.getElem?_eq_some_iff.1 hj).1
  rcases k5 with k5 | ⟨b, off, e1, hc⟩
  · subst k5
    rw [Nat.zero_mul] at k3
    omega
  · cases e1
    rw [add_lit]
    exact (hc j (by rw [← k3]; exact hjl)).trans hj
theorem entX {w : World} {a : Nat} {p : Pos} {T : TypeId} (ha : w.heap[a]? = some (.cells #[.int .u64 (p.key : Int), .int .i64 p.off, .int .i64 p.len, .int .u32 (p.cookie : Int), .bool p.gone] T (0, 0))) : IsX w 5 (.slice (some ⟨a, 0, none⟩) 1 1) 1 (pcells p) := by
  refine ⟨_, _, rfl, Nat.le_refl _, by unfold maxLen; omega, rfl, by simp, .inr ⟨a, 0, rfl, fun j hj => ?_⟩⟩
  rw [cell_of_row w a _ _ _ _ ha, Nat.zero_add]
  match j, hj with
  | 0, _ => rfl
  | 1, _ => rfl
  | 2, _ => rfl
  | 3, _ => rfl
  | 4, _ => rfl

set_option maxRecDepth 100000 in
set_option maxHeartbeats 1000000 in
/-- At the end. -/
theorem tins_end (v : Value) (l : List Pos) (p : Pos) (a : Nat) (w : World) (hv : w.ownsRow 0 32 5 v l.length (row pcells l)) (hl : l.length ≤ 1048576)
    (ha : w.heap[a]? = some (.cells #[.int .u64 (p.key : Int), .int .i64 p.off, .int .i64 p.len, .int .u32 (p.cookie : Int), .bool p.gone] 32 (0, 0))) :
    Calls Try.prog 22 #[v, .int .i64 (l.length : Int), .slice (some ⟨a, 0, none⟩) 1 1] w fun e w' =>
      ∃ v', e = .returned v' ∧ w'.ownsRow 0 32 5 v' (l.length + 1) (row pcells (l ++ [p])) ∧ Kept (fun k => v.ownBlock = some k) w w' ∧ (v'.ownBlock = v.ownBlock ∨ v'.ownBlock = some w.heap.size) := by
  obtain ⟨i0, hinf, hz0, hz1, hz2⟩ := info_parts Try.infoPos
  have hT := Try.underlying39
  have hX := IsX.own hv
  have hS := entX ha
  obtain ⟨x, cap, rfl, hlc, hcm⟩ := hX.slice
  obtain ⟨v', w1, hap, hown1, hgr1, hat1⟩ := run_append_X (P := Try.prog) w 0 39 _ 39 i0 _ 5 32 hT hinf hz0 hz1 hz2 rfl (by decide) _ _ _ hv _ 1 _ hS (pcells_one p) (by unfold maxLen; omega) (by omega) (Nat.zero_le _)
  obtain ⟨N, hN⟩ : ∃ N, l.length = N := ⟨_, rfl⟩
  rw [hN] at hX hl hlc hv hap hown1 hgr1 hat1 ⊢
  have hs1 := slice_l_X (P := Try.prog) hX 39 _ hT Try.sizePos N (by omega)
  have hlen := fun W => len_X (P := Try.prog) hX 39 3 _ hT W
  have HAP := Lib.hid hap
  have HO := Lib.hid (show w1.ownsRow 0 32 5 v' (N + 1) (row pcells (l ++ [p])) from by rw [row_append, row_one]; exact hown1)
  have HK := Lib.hid (show Kept (fun k => (Value.slice x N cap).ownBlock = some k) w w1 from (Kept.refl _ w).grown hgr1 (fun k hk => .inl hk))
  have HA := Lib.hid hat1
  clear hap hown1 hgr1 hat1 hv hX hN
  generalize sliced x N N cap 5 = VI at *
  generalize Value.slice x N cap = V at *
  go_enter Try.func22, Try.ntmps22
  go_wp2_with (at_builtin; refine Lib.wpList_append_run _ rfl _ _ 39 39 rfl _ _ rfl rfl _ _ HAP.out ?_)
  go_ret
  exact ⟨_, rfl, HO.out, HK.out, HA.out⟩

set_option maxRecDepth 100000 in
set_option maxHeartbeats 2000000 in
/-- In the midst, where there is no room. -/
theorem tins_grow (l : List Pos) (p : Pos) (a g i N cap : Nat) (w : World) (hv : w.ownsRow 0 32 5 (.slice (some ⟨g, 0, none⟩) N cap) N (row pcells l)) (hN : l.length = N) (hi : i < N) (hl : N ≤ 1048576) (hroom : cap < N + 1) (hcm : cap ≤ maxLen) (hga : g ≠ a)
    (ha : w.heap[a]? = some (.cells #[.int .u64 (p.key : Int), .int .i64 p.off, .int .i64 p.len, .int .u32 (p.cookie : Int), .bool p.gone] 32 (0, 0))) :
    Calls Try.prog 22 #[.slice (some ⟨g, 0, none⟩) N cap, .int .i64 (i : Int), .slice (some ⟨a, 0, none⟩) 1 1] w fun e w' =>
      ∃ v', e = .returned v' ∧ w'.ownsRow 0 32 5 v' (N + 1) (row pcells (l.take i ++ p :: l.drop i)) ∧ Kept (fun k => some g = some k) w w' ∧ (v'.ownBlock = some g ∨ v'.ownBlock = some w.heap.size) := by
  obtain ⟨i0, hinf, hz0, hz1, hz2⟩ := info_parts Try.infoPos
  have hT := Try.underlying39
  have hX := IsX.own hv
  have hS := entX ha
  have hlr := length_row (pcells_len) l
  rw [hN] at hlr
  have hcap : N = cap := by
    obtain ⟨x', c', e', h1, _⟩ := hX.slice
    cases e'
    omega
  subst hcap
  have halt : a < w.heap.size := (Array.getElem?_eq_some_iff.1 ha).1
  have hglt := (hv.lt g rfl).2
  have hs0 := slice_h_X (P := Try.prog) 5 (some ⟨g, 0, none⟩) N N 39 _ hT Try.sizePos i (by omega)
  have hsI := slice_l_X (P := Try.prog) hX 39 _ hT Try.sizePos i (by omega)
  have hXI := hX.piece (lo := i) (hi := N) (by omega) (Nat.le_refl _)
  rw [sliced_at _ _ _ _ _ _ (by omega), Nat.zero_add] at hsI hXI
  have hB : ((row pcells l).drop (i * 5)).take ((N - i) * 5) = (row pcells l).drop (i * 5) := List.take_of_length_le (by rw [List.length_drop, hlr]; omega)
  rw [hB] at hXI
  have hlen := fun W => len_X (P := Try.prog) hX 39 3 _ hT W
  have hown0 := ownsRow_take hv (Nat.le_of_lt hi)
  have hl0 : ((row pcells l).take (i * 5)).length = i * 5 := by rw [List.length_take, hlr]; omega
  have hlB : ((row pcells l).drop (i * 5)).length = (N - i) * 5 := by rw [List.length_drop, hlr]; omega
  have hold : (Builtin.firstCells i0.size i (.slice (some ⟨g, 0, none⟩) i N)).run Try.prog w.drew = .ok ((row pcells l).take (i * 5)).toArray w.drew :=
    run_firstCells_some (P := Try.prog) w.drew i0.size i ⟨g, 0, none⟩ i N _ (by rw [hz1]; exact hl0) (fun j u hj => hown0.cells (g := g) rfl j u hj)
  obtain ⟨k, hk⟩ : ∃ k, N + 1 - i = k := ⟨_, rfl⟩
  have hap := Lib.run_append_grow_zeros (P := Try.prog) w 39 3 39 _ i0 _ .i64 .i64 hT Try.underlying3 hinf hz0 (some ⟨g, 0, none⟩) i N _ hold k (by omega) (by omega) (by omega) (by omega) (by rw [hz2]; omega) (growslice_fits (by omega) (by rw [hz2]; omega))
  have hik : i + k = N + 1 := by omega
  rw [hik] at hap
  obtain ⟨c2, hc2⟩ : ∃ c2, grownCap w (N + 1) N 32 = c2 := ⟨_, rfl⟩
  have hc2ge := grownCap_ge w (N + 1) N 32
  have hc2le := grownCap_le_maxLen w (N + 1) N 32 (by unfold maxLen; omega)
  rw [hc2] at hap hc2ge hc2le
  obtain ⟨L0, hL0⟩ : ∃ L0, ((row pcells l).take (i * 5)).toArray ++ Builtin.zeroCells (Value.agg #[.int .u64 0, .int .i64 0, .int .i64 0, .int .u32 0, .bool false]).cells k ++ Builtin.zeroCells (Value.agg #[.int .u64 0, .int .i64 0, .int .i64 0, .int .u32 0, .bool false]).cells (c2 - (N + 1)) = L0 := ⟨_, rfl⟩
  rw [hL0] at hap
  have hzs : (Value.agg #[.int .u64 0, .int .i64 0, .int .i64 0, .int .u32 0, .bool false]).cells.size = 5 := by kernel_rfl
  have hL0s : L0.size = c2 * 5 := by
    rw [← hL0]
    simp only [Array.size_append, List.size_toArray, size_zeroCells, hzs, hl0]
    omega
  have hL0l : L0.toList.length = c2 * 5 := by rw [Array.length_toList]; exact hL0s
  have hL0t : L0.toList.take (i * 5) = (row pcells l).take (i * 5) := by
    rw [← hL0]
    simp only [Array.toList_append, List.append_assoc]
    exact List.take_left' hl0
  obtain ⟨w1, hw1⟩ : ∃ w1, w.drew.alloc (.cells L0 32) = w1 := ⟨_, rfl⟩
  have hg1 : w1.heap[w.heap.size]? = some (.cells L0 32 (0, 0)) := by rw [← hw1]; exact heap_alloc_new w.drew _
  have hK1 : Kept (fun k => some g = some k) w w1 := by rw [← hw1]; exact ((Kept.refl _ w).drew).alloc _
  rw [hw1] at hap
  -- the entry
  have hsD1 := slice_l_C (P := Try.prog) 5 (some ⟨w.heap.size, 0, none⟩) (N + 1) c2 39 _ hT Try.sizePos i (by omega)
  rw [sliced_at _ _ _ _ _ _ (by omega), Nat.zero_add] at hsD1
  have hcp1 := fun ty => run_copy_X (P := Try.prog) w1 39 39 ty _ 5 w.heap.size (i * 5) (N + 1 - i) (c2 - i) ⟨a, 0, none⟩ 1 1 1 L0 _ (pcells p) hT Try.sizePos hg1 (by simp only [Nat.min_def]; split <;> omega) rfl
      (srcOf (hS.kept hK1 (fun j hj he => by
        have e1 : a = j := by simpa [Value.ownBlock] using hj.2
        have e2 : g = j := by simpa using he
        omega))) (by rw [hL0s]; show i * 5 + 5 ≤ _; omega) (pcells_one p)
  obtain ⟨L1, hL1⟩ : ∃ L1, (L0.toList.take (i * 5) ++ pcells p ++ L0.toList.drop (i * 5 + (pcells p).length)) = L1 := ⟨_, rfl⟩
  rw [hL1] at hcp1
  obtain ⟨w2, hw2⟩ : ∃ w2, w1.setRow w.heap.size L1.toArray = w2 := ⟨_, rfl⟩
  have hg2 : w2.heap[w.heap.size]? = some (.cells L1.toArray 32 (0, 0)) := by rw [← hw2]; exact setRow_heap w1 _ L0 _ _ _ hg1
  have hK2 : Kept (fun k => some g = some k) w w2 := by rw [← hw2]; exact hK1.setRow (.inr (Nat.le_refl _)) _
  rw [hw2] at hcp1
  have hL1s : L1.length = c2 * 5 := by
    rw [← hL1]
    simp only [List.length_append, List.length_take, List.length_drop, Array.length_toList, hL0s]
    show min (i * 5) (c2 * 5) + 5 + (c2 * 5 - (i * 5 + 5)) = _
    omega
  -- what stood behind
  have hsD2 := slice_l_C (P := Try.prog) 5 (some ⟨w.heap.size, 0, none⟩) (N + 1) c2 39 _ hT Try.sizePos (i + 1) (by omega)
  rw [sliced_at _ _ _ _ _ _ (by omega), Nat.zero_add, show N + 1 - (i + 1) = N - i from by omega] at hsD2
  have hXI2 : IsX w2.drew 5 (.slice (some ⟨g, i * 5, none⟩) (N - i) (N - i)) (N - i) ((row pcells l).drop (i * 5)) := by
    refine hXI.kept (S := fun k => w.heap.size ≤ k) ?_ (fun j hj he => ?_)
    · rw [← hw2, ← hw1]
      exact ((((Kept.refl _ w).drew).alloc _).setRow (.inl (Nat.le_refl _)) _).drew
    · have e1 : g = j := by simpa [Value.ownBlock] using hj.2
      omega
  have hcp2 := fun ty => run_copy_X (P := Try.prog) w2.drew 39 39 ty _ 5 w.heap.size ((i + 1) * 5) (N - i) (c2 - (i + 1)) ⟨g, i * 5, none⟩ (N - i) (N - i) (N - i) L1.toArray _ ((row pcells l).drop (i * 5)) hT Try.sizePos hg2 (by simp only [Nat.min_def]; split <;> omega) hlB
      (srcOf hXI2) (by rw [List.size_toArray, hL1s, hlB]; omega) (fun u hu => pcs_one l u (List.mem_of_mem_drop hu))
  obtain ⟨L2, hL2⟩ : ∃ L2, (L1.toArray.toList.take ((i + 1) * 5) ++ (row pcells l).drop (i * 5) ++ L1.toArray.toList.drop ((i + 1) * 5 + ((row pcells l).drop (i * 5)).length)) = L2 := ⟨_, rfl⟩
  rw [hL2] at hcp2
  obtain ⟨w3, hw3⟩ : ∃ w3, w2.drew.setRow w.heap.size L2.toArray = w3 := ⟨_, rfl⟩
  have hg3 : w3.heap[w.heap.size]? = some (.cells L2.toArray 32 (0, 0)) := by rw [← hw3]; exact setRow_heap w2.drew _ L1.toArray _ _ _ hg2
  have hK3 : Kept (fun k => some g = some k) w w3 := by rw [← hw3]; exact (hK2.drew).setRow (.inr (Nat.le_refl _)) _
  rw [hw3] at hcp2
  have hlist := ins_list2 L0.toList ((row pcells l).take (i * 5)) (pcells p) ((row pcells l).drop (i * 5)) (i * 5) 5 hL0t rfl (by rw [hL0l, hlB]; omega)
  rw [show i * 5 + 5 = i * 5 + (pcells p).length from rfl, hL1, show i * 5 + (pcells p).length = (i + 1) * 5 from by show i * 5 + 5 = _; omega] at hlist
  rw [show L1 = L1.toArray.toList from rfl, hL2, hlB, show (i + 1) * 5 + (N - i) * 5 = (N + 1) * 5 from by omega] at hlist
  have hO3 : w3.ownsRow 0 32 5 (.slice (some ⟨w.heap.size, 0, none⟩) (N + 1) c2) (N + 1) (row pcells (l.take i ++ p :: l.drop i)) := by
    have e : row pcells (l.take i ++ p :: l.drop i) = (row pcells l).take (i * 5) ++ pcells p ++ (row pcells l).drop (i * 5) := by
      rw [row_append, row_cons, row_take (pcells_len), row_drop (pcells_len), List.append_assoc]
    rw [e]
    refine ⟨by simp only [List.length_append, hl0, hlB]; show i * 5 + 5 + _ = _; omega, .inr ⟨w.heap.size, c2, _, rfl, Nat.zero_le _, hg3, hc2ge, hc2le, ?_, ?_⟩⟩
    · rw [List.size_toArray, hlist.2, hL0l]
    · rw [List.toList_toArray]
      exact hlist.1
  have HO := Lib.hid hO3
  have HK := Lib.hid hK3
  have HAP := Lib.hid hap
  have HC1 := Lib.hid hcp1
  have HC2 := Lib.hid hcp2
  have hne : ((i : Int) == (N : Int)) = false := by simp; omega
  have hgt : ¬ ((N : Int) + 1 ≤ (N : Int)) := by omega
  have hkk : (N : Int) + 1 - (i : Int) = (k : Int) := by omega
  have hS1 := fun W => len_X (P := Try.prog) hS 39 3 _ Try.underlying39 W
  have hcap := fun (W : World) (ty : TypeId) => run_cap_slice (P := Try.prog) W 39 ty (some ⟨g, 0, none⟩) N N (by simp [Program.elem, hT])
  rw [show ((i + 1 : Nat) : Int) = (i : Int) + 1 from rfl] at hsD2
  have HB := Lib.hid (show Value.ownBlock (.slice (some ⟨w.heap.size, 0, none⟩) (N + 1) c2) = some w.heap.size from rfl)
  have hwr : IntKind.i64.wrap ((i : Int) + 1) = (i : Int) + 1 := IntWalk.i64_in _ (by omega)
  refine (walk_grow _ _ _ _ _ _ _ i N k w w1 w2 w3 hi hl hkk hne hgt hlen hcap hS1 hsI hs0 hsD1 hsD2 HAP _ _ HC1 HC2 hwr).mono fun e w' => ?_
  rintro ⟨rfl, rfl⟩
  exact ⟨_, rfl, HO.out, HK.out, .inr HB.out⟩

set_option maxRecDepth 100000 in
set_option maxHeartbeats 2000000 in
/-- In the midst, where there is room. -/
theorem tins_room (l : List Pos) (p : Pos) (a g i N cap : Nat) (w : World) (hv : w.ownsRow 0 32 5 (.slice (some ⟨g, 0, none⟩) N cap) N (row pcells l)) (hN : l.length = N) (hi : i < N) (hl : N ≤ 1048576) (hroom : N + 1 ≤ cap) (hcm : cap ≤ maxLen) (hga : g ≠ a)
    (ha : w.heap[a]? = some (.cells #[.int .u64 (p.key : Int), .int .i64 p.off, .int .i64 p.len, .int .u32 (p.cookie : Int), .bool p.gone] 32 (0, 0))) :
    Calls Try.prog 22 #[.slice (some ⟨g, 0, none⟩) N cap, .int .i64 (i : Int), .slice (some ⟨a, 0, none⟩) 1 1] w fun e w' =>
      ∃ v', e = .returned v' ∧ w'.ownsRow 0 32 5 v' (N + 1) (row pcells (l.take i ++ p :: l.drop i)) ∧ Kept (fun k => some g = some k) w w' ∧ (v'.ownBlock = some g ∨ v'.ownBlock = some w.heap.size) := by
  obtain ⟨i0, hinf, hz0, hz1, hz2⟩ := info_parts Try.infoPos
  have hT := Try.underlying39
  have hX := IsX.own hv
  have hS := entX ha
  have hlr := length_row (pcells_len) l
  rw [hN] at hlr
  rcases hv.2 with ⟨hbad, _⟩ | ⟨g', cap', cur, he, _, hg, _, _, hcs, htake⟩
  · cases hbad
  cases he
  have halt : a < w.heap.size := (Array.getElem?_eq_some_iff.1 ha).1
  have hsI := slice_l_X (P := Try.prog) hX 39 _ hT Try.sizePos i (by omega)
  rw [sliced_at _ _ _ _ _ _ (by omega), Nat.zero_add] at hsI
  have hlB : ((row pcells l).drop (i * 5)).length = (N - i) * 5 := by rw [List.length_drop, hlr]; omega
  have hlen := fun W => len_X (P := Try.prog) hX 39 3 _ hT W
  have hs3 := slice_h_X (P := Try.prog) 5 (some ⟨g, 0, none⟩) N cap 39 _ hT Try.sizePos (N + 1) hroom
  have hsD := slice_l_C (P := Try.prog) 5 (some ⟨g, 0, none⟩) (N + 1) cap 39 _ hT Try.sizePos (i + 1) (by omega)
  rw [sliced_at _ _ _ _ _ _ (by omega), Nat.zero_add, show N + 1 - (i + 1) = N - i from by omega] at hsD
  have hsS := slice_l_C (P := Try.prog) 5 (some ⟨g, 0, none⟩) (N + 1) cap 39 _ hT Try.sizePos i (by omega)
  rw [sliced_at _ _ _ _ _ _ (by omega), Nat.zero_add] at hsS
  have hsz : ∀ W, (sizeOf 32).run Try.prog W = .ok 5 W := fun W => by simp [sizeOf, typeInfo, hinf, hz1]
  have hov : (callFunc 29 #[.slice (some ⟨a, 0, none⟩) 1 1, .slice (some ⟨g, (i + 1) * 5, none⟩) (N - i) (cap - (i + 1))]).run Try.prog w = .ok (.value (.bool false)) w := by
    rw [run_callFunc_extern Try.func29 (by kernel_rfl) (by kernel_rfl) (by kernel_rfl) (e := Extern.SlicesOverlaps.overlaps #[39, 39] #[4]) (by kernel_rfl),
      Lib.run_overlaps_apart w 39 4 32 Try.underlying39 5 hsz ⟨a, 0, none⟩ ⟨g, (i + 1) * 5, none⟩ 1 1 (N - i) (cap - (i + 1)) (fun e => hga e.symm) 32 32 5 cur.size (by simp [World.shape?, ha]) (by simp [World.shape?, hg]) (by rw [hcs]; omega) (frozen_of_row w a 0 _ _ ha) (frozen_of_row w a 5 _ _ ha)]
    rfl
  have hL0l : cur.toList.length = cap * 5 := by rw [Array.length_toList]; exact hcs
  have hL0t : cur.toList.take (i * 5) = (row pcells l).take (i * 5) := by
    rw [← htake, List.take_take, Nat.min_eq_left (by omega)]
  have hcp1 := fun ty => run_copy_X (P := Try.prog) w.drew 39 39 ty _ 5 g ((i + 1) * 5) (N - i) (cap - (i + 1)) ⟨g, i * 5, none⟩ (N + 1 - i) (cap - i) (N - i) cur _ ((row pcells l).drop (i * 5)) hT Try.sizePos hg (by simp only [Nat.min_def]; split <;> omega) hlB
      (fun j u hj => by
        rw [add_lit]
        have hjl := (List.getElem?_eq_some_iff.1 hj).1
        rw [List.getElem?_drop] at hj
        rw [hlB] at hjl
        show w.cell? _ = _
        rw [hv.cellAt (i * 5 + j) (by omega)]
        exact hj) (by rw [hcs, hlB]; omega) (fun u hu => pcs_one l u (List.mem_of_mem_drop hu))
  obtain ⟨L1, hL1⟩ : ∃ L1, (cur.toList.take ((i + 1) * 5) ++ (row pcells l).drop (i * 5) ++ cur.toList.drop ((i + 1) * 5 + ((row pcells l).drop (i * 5)).length)) = L1 := ⟨_, rfl⟩
  rw [hL1] at hcp1
  obtain ⟨w2, hw2⟩ : ∃ w2, w.drew.setRow g L1.toArray = w2 := ⟨_, rfl⟩
  have hg2 : w2.heap[g]? = some (.cells L1.toArray 32 (0, 0)) := by rw [← hw2]; exact setRow_heap w.drew _ cur _ _ _ hg
  have hK2 : Kept (fun k => some g = some k) w w2 := by rw [← hw2]; exact Kept.setRow (S := fun k => some g = some k) ((Kept.refl _ w).drew) (.inl rfl) _
  rw [hw2] at hcp1
  have hL1s : L1.length = cap * 5 := by
    rw [← hL1]
    simp only [List.length_append, List.length_take, List.length_drop, hL0l]
    omega
  have hcp2 := fun ty => run_copy_X (P := Try.prog) w2 39 39 ty _ 5 g (i * 5) (N + 1 - i) (cap - i) ⟨a, 0, none⟩ 1 1 1 L1.toArray _ (pcells p) hT Try.sizePos hg2 (by simp only [Nat.min_def]; split <;> omega) rfl
      (srcOf (hS.kept hK2 (fun j hj he => by
        have e1 : a = j := by simpa [Value.ownBlock] using hj.2
        have e2 : g = j := by simpa using he
        omega))) (by rw [List.size_toArray, hL1s]; show i * 5 + 5 ≤ _; omega) (pcells_one p)
  obtain ⟨L2, hL2⟩ : ∃ L2, (L1.toArray.toList.take (i * 5) ++ pcells p ++ L1.toArray.toList.drop (i * 5 + (pcells p).length)) = L2 := ⟨_, rfl⟩
  rw [hL2] at hcp2
  obtain ⟨w3, hw3⟩ : ∃ w3, w2.setRow g L2.toArray = w3 := ⟨_, rfl⟩
  have hg3 : w3.heap[g]? = some (.cells L2.toArray 32 (0, 0)) := by rw [← hw3]; exact setRow_heap w2 _ L1.toArray _ _ _ hg2
  have hK3 : Kept (fun k => some g = some k) w w3 := by rw [← hw3]; exact hK2.setRow (.inl rfl) _
  rw [hw3] at hcp2
  have hlist := ins_list cur.toList ((row pcells l).take (i * 5)) (pcells p) ((row pcells l).drop (i * 5)) (i * 5) 5 hL0t rfl (by rw [hL0l, hlB]; omega)
  rw [show i * 5 + 5 = (i + 1) * 5 from by omega, hL1, show (i + 1) * 5 = i * 5 + (pcells p).length from by show _ = i * 5 + 5; omega] at hlist
  rw [show L1 = L1.toArray.toList from rfl, hL2, hlB, show i * 5 + (pcells p).length + (N - i) * 5 = (N + 1) * 5 from by show i * 5 + 5 + _ = _; omega] at hlist
  have hl0 : ((row pcells l).take (i * 5)).length = i * 5 := by rw [List.length_take, hlr]; omega
  have hO3 : w3.ownsRow 0 32 5 (.slice (some ⟨g, 0, none⟩) (N + 1) cap) (N + 1) (row pcells (l.take i ++ p :: l.drop i)) := by
    have e : row pcells (l.take i ++ p :: l.drop i) = (row pcells l).take (i * 5) ++ pcells p ++ (row pcells l).drop (i * 5) := by
      rw [row_append, row_cons, row_take (pcells_len), row_drop (pcells_len), List.append_assoc]
    rw [e]
    refine ⟨by simp only [List.length_append, hl0, hlB]; show i * 5 + 5 + _ = _; omega, .inr ⟨g, cap, _, rfl, Nat.zero_le _, hg3, hroom, hcm, ?_, ?_⟩⟩
    · rw [List.size_toArray, hlist.2, hL0l]
    · rw [List.toList_toArray]
      exact hlist.1
  have HO := Lib.hid hO3
  have HK := Lib.hid hK3
  have HC1 := Lib.hid hcp1
  have HC2 := Lib.hid hcp2
  have hne : ((i : Int) == (N : Int)) = false := by simp; omega
  have hgt : ((N : Int) + 1 ≤ (cap : Int)) := by omega
  have hS1 := fun W => len_X (P := Try.prog) hS 39 3 _ Try.underlying39 W
  have hcap := fun (W : World) (ty : TypeId) => run_cap_slice (P := Try.prog) W 39 ty (some ⟨g, 0, none⟩) N cap (by simp [Program.elem, hT])
  rw [show ((i + 1 : Nat) : Int) = (i : Int) + 1 from rfl] at hsD
  rw [show ((N + 1 : Nat) : Int) = (N : Int) + 1 from rfl] at hs3
  have HB := Lib.hid (show Value.ownBlock (.slice (some ⟨g, 0, none⟩) (N + 1) cap) = some g from rfl)
  have hwr : IntKind.i64.wrap ((i : Int) + 1) = (i : Int) + 1 := IntWalk.i64_in _ (by omega)
  refine (walk_room _ _ _ _ _ _ i N cap w w2 w3 hi hl hne hgt hlen hcap hS1 hsI hs3 hsS hsD hov _ _ HC1 HC2 hwr).mono fun e w' => ?_
  rintro ⟨rfl, rfl⟩
  exact ⟨_, rfl, HO.out, HK.out, .inl HB.out⟩

/-- An entry laid in. -/
theorem tins_any (v : Value) (l : List Pos) (p : Pos) (a i : Nat) (w : World) (hv : w.ownsRow 0 32 5 v l.length (row pcells l)) (hi : i ≤ l.length) (hl : l.length ≤ 1048576) (hva : v.ownBlock ≠ some a)
    (ha : w.heap[a]? = some (.cells #[.int .u64 (p.key : Int), .int .i64 p.off, .int .i64 p.len, .int .u32 (p.cookie : Int), .bool p.gone] 32 (0, 0))) :
    Calls Try.prog 22 #[v, .int .i64 (i : Int), .slice (some ⟨a, 0, none⟩) 1 1] w fun e w' =>
      ∃ v', e = .returned v' ∧ w'.ownsRow 0 32 5 v' (l.length + 1) (row pcells (l.take i ++ p :: l.drop i)) ∧ Kept (fun k => v.ownBlock = some k) w w' ∧ (v'.ownBlock = v.ownBlock ∨ v'.ownBlock = some w.heap.size) := by
  by_cases h : i = l.length
  · subst h
    have := tins_end v l p a w hv hl ha
    rw [List.take_length, List.drop_length]
    exact this
  · rcases hv.2 with ⟨rfl, h0⟩ | ⟨g, cap, cur, rfl, _, hg, hnc, hcm, _⟩
    · omega
    · have hga : g ≠ a := fun e => hva (by rw [← e]; rfl)
      by_cases hr : l.length + 1 ≤ cap
      · exact tins_room l p a g i l.length cap w hv rfl (by omega) hl hr hcm hga ha
      · exact tins_grow l p a g i l.length cap w hv rfl (by omega) hl (by omega) hcm hga ha

end Go.Proofs.Ytbloedaidbfehaa
