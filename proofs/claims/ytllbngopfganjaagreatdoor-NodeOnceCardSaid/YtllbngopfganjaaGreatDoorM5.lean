/- Tabi, Behind, Disk, Diskb. -/
import Derived.Test.YtllbngopfganjaaGreatDoorM4
import Derived.Test.YtllbngopfganjaaGreatDoorM1
import Derived.Deep.QuietTactic
import Derived.BigQuiet
import Derived.StillTailTactics
import Derived.Deep.RegionHeld3
import Derived.Deep.CutRange
set_option linter.unusedVariables false
set_option linter.unusedSimpArgs false

section
namespace Go.Proofs.YtllbngopfganjaaGreatDoor
open Go.RowKit Go.Cor

theorem srcOf {w : World} {size : Nat} {ad : Addr} {n c : Nat} {cs : List Value} (h : IsX w size (.slice (some ad) n c) n cs) : ∀ j u, cs[j]? = some u → w.cell? (ad.add j) = some u := by
  intro j u hj
  obtain ⟨a', c', e', k1, k2, k3, k4, k5⟩ := h
  cases e'
  have hjl := (List.getElem?_eq_some_iff.1 hj).1
  rcases k5 with k5 | ⟨b, off, e1, hc⟩
  · subst k5
    rw [Nat.zero_mul] at k3
    omega
  · cases e1
    rw [add_lit]
    exact (hc j (by rw [← k3]; exact hjl)).trans hj
theorem entX {w : World} {a : Nat} {fb : Nat → Nat} {n : ByteArray} {f : Nat} {T : TypeId} (ha : w.heap[a]? = some (.cells #[.string n, .pointer (some ⟨fb f, 0, none⟩)] T (0, 0))) : IsX w 2 (.slice (some ⟨a, 0, none⟩) 1 1) 1 (ent fb (n, f)) := by
  refine ⟨_, _, rfl, Nat.le_refl _, by decide, rfl, by simp, .inr ⟨a, 0, rfl, fun j hj => ?_⟩⟩
  rw [cell_of_row w a _ _ _ _ ha, Nat.zero_add]
  match j, hj with
  | 0, _ => rfl
  | 1, _ => rfl
theorem ent_mem {fb : Nat → Nat} {e : ByteArray × Nat} : ∀ v ∈ ent fb e, v.oneCell' = true := by
  intro v hv
  simp only [ent, List.mem_cons, List.not_mem_nil, or_false] at hv
  rcases hv with rfl | rfl <;> rfl
theorem append_types (ty : TypeId) (v : Value) (x : Option Addr) (m c : Nat) (w : World) : (Builtin.append_ #[91, 90] ty #[v, .slice x m c]).run Tryz.prog w = (Builtin.append_ #[91, 91] ty #[v, .slice x m c]).run Tryz.prog w := by
  have h1 := Tryz.underlying91
  have h2 := Tryz.underlying90
  cases v <;> simp [Builtin.append_, run_underlying h1, run_underlying h2]

set_option maxRecDepth 100000 in
set_option maxHeartbeats 1000000 in
/-- At the end. -/
theorem tins_end (fb : Nat → Nat) (v : Value) (l : Tbl) (n : ByteArray) (f a : Nat) (w : World) (hv : w.ownsRow 0 164 2 v l.length (row (ent fb) l)) (hl : l.length ≤ 1048576)
    (ha : w.heap[a]? = some (.cells #[.string n, .pointer (some ⟨fb f, 0, none⟩)] 164 (0, 0))) :
    Calls Tryz.prog 136 #[v, .int .i64 (l.length : Int), .slice (some ⟨a, 0, none⟩) 1 1] w fun e w' =>
      ∃ v', e = .returned v' ∧ w'.ownsRow 0 164 2 v' (l.length + 1) (row (ent fb) (l ++ [(n, f)])) ∧ Kept (fun k => v.ownBlock = some k) w w' ∧ (v'.ownBlock = v.ownBlock ∨ v'.ownBlock = some w.heap.size) := by
  obtain ⟨i0, hinf, hz0, hz1, hz2⟩ := info_parts Tryz.infoEnt
  have hT := Tryz.underlying91
  have hX := IsX.own hv
  have hS := entX ha
  obtain ⟨x, cap, rfl, hlc, hcm⟩ := hX.slice
  obtain ⟨v', w1, hap, hown1, hgr1, hat1⟩ := run_append_X (P := Tryz.prog) w 0 91 _ 91 i0 _ 2 24 hT hinf hz0 hz1 hz2 rfl (by decide) _ _ _ hv _ 1 _ hS ent_mem (by unfold maxLen; omega) (by omega) (Nat.zero_le _)
  obtain ⟨N, hN⟩ : ∃ N, l.length = N := ⟨_, rfl⟩
  rw [hN] at hX hl hlc hv hap hown1 hgr1 hat1 ⊢
  have hs1 := slice_l_X (P := Tryz.prog) hX 91 _ hT Tryz.sizeEnt N (by omega)
  have hlen := fun W => len_X (P := Tryz.prog) hX 91 3 _ hT W
  rw [← append_types] at hap
  have HAP := Lib.hid hap
  have HO := Lib.hid (show w1.ownsRow 0 164 2 v' (N + 1) (row (ent fb) (l ++ [(n, f)])) from by rw [row_append, row_one]; exact hown1)
  have HK := Lib.hid (show Kept (fun k => (Value.slice x N cap).ownBlock = some k) w w1 from (Kept.refl _ w).grown hgr1 (fun k hk => .inl hk))
  have HA := Lib.hid hat1
  clear hap hown1 hgr1 hat1 hv hX hN
  generalize sliced x N N cap 2 = VI at *
  generalize Value.slice x N cap = V at *
  go_enter Tryz.func136, Tryz.ntmps136
  go_wp2_with (at_builtin; refine Lib.wpList_append_run _ rfl _ _ 91 90 rfl _ _ rfl rfl _ _ HAP.out ?_)
  go_ret
  exact ⟨_, rfl, HO.out, HK.out, HA.out⟩

set_option maxRecDepth 100000 in
set_option maxHeartbeats 2000000 in
/-- In the midst, where there is no room. -/
theorem tins_grow (fb : Nat → Nat) (l : Tbl) (n : ByteArray) (f a g i N cap : Nat) (w : World) (hv : w.ownsRow 0 164 2 (.slice (some ⟨g, 0, none⟩) N cap) N (row (ent fb) l)) (hN : l.length = N) (hi : i < N) (hl : N ≤ 1048576) (hroom : cap < N + 1) (hcm : cap ≤ maxLen) (hga : g ≠ a)
    (ha : w.heap[a]? = some (.cells #[.string n, .pointer (some ⟨fb f, 0, none⟩)] 164 (0, 0))) :
    Calls Tryz.prog 136 #[.slice (some ⟨g, 0, none⟩) N cap, .int .i64 (i : Int), .slice (some ⟨a, 0, none⟩) 1 1] w fun e w' =>
      ∃ v', e = .returned v' ∧ w'.ownsRow 0 164 2 v' (N + 1) (row (ent fb) (l.take i ++ (n, f) :: l.drop i)) ∧ Kept (fun k => some g = some k) w w' ∧ (v'.ownBlock = some g ∨ v'.ownBlock = some w.heap.size) := by
  obtain ⟨i0, hinf, hz0, hz1, hz2⟩ := info_parts Tryz.infoEnt
  have hT := Tryz.underlying91
  have hX := IsX.own hv
  have hS := entX ha
  have hlr := length_row (ent_len fb) l
  rw [hN] at hlr
  have hcap : N = cap := by
    obtain ⟨x', c', e', h1, _⟩ := hX.slice
    cases e'
    omega
  subst hcap
  have halt : a < w.heap.size := (Array.getElem?_eq_some_iff.1 ha).1
  have hglt := (hv.lt g rfl).2
  have hs0 := slice_h_X (P := Tryz.prog) 2 (some ⟨g, 0, none⟩) N N 91 _ hT Tryz.sizeEnt i (by omega)
  have hsI := slice_l_X (P := Tryz.prog) hX 91 _ hT Tryz.sizeEnt i (by omega)
  have hXI := hX.piece (lo := i) (hi := N) (by omega) (Nat.le_refl _)
  rw [sliced_at _ _ _ _ _ _ (by omega), Nat.zero_add] at hsI hXI
  have hB : ((row (ent fb) l).drop (i * 2)).take ((N - i) * 2) = (row (ent fb) l).drop (i * 2) := List.take_of_length_le (by rw [List.length_drop, hlr]; omega)
  rw [hB] at hXI
  have hlen := fun W => len_X (P := Tryz.prog) hX 91 3 _ hT W
  have hown0 := ownsRow_take hv (Nat.le_of_lt hi)
  have hl0 : ((row (ent fb) l).take (i * 2)).length = i * 2 := by rw [List.length_take, hlr]; omega
  have hlB : ((row (ent fb) l).drop (i * 2)).length = (N - i) * 2 := by rw [List.length_drop, hlr]; omega
  have hold : (Builtin.firstCells i0.size i (.slice (some ⟨g, 0, none⟩) i N)).run Tryz.prog w.drew = .ok ((row (ent fb) l).take (i * 2)).toArray w.drew :=
    run_firstCells_some (P := Tryz.prog) w.drew i0.size i ⟨g, 0, none⟩ i N _ (by rw [hz1]; exact hl0) (fun j u hj => hown0.cells (g := g) rfl j u hj)
  obtain ⟨k, hk⟩ : ∃ k, N + 1 - i = k := ⟨_, rfl⟩
  have hap := Lib.run_append_grow_zeros (P := Tryz.prog) w 91 3 91 _ i0 _ .i64 .i64 hT Tryz.underlying3 hinf hz0 (some ⟨g, 0, none⟩) i N _ hold k (by omega) (by omega) (by omega) (by omega) (by rw [hz2]; omega) (growslice_fits (by omega) (by rw [hz2]; omega))
  have hik : i + k = N + 1 := by omega
  rw [hik] at hap
  obtain ⟨c2, hc2⟩ : ∃ c2, grownCap w (N + 1) N 164 = c2 := ⟨_, rfl⟩
  have hc2ge := grownCap_ge w (N + 1) N 164
  have hc2le := grownCap_le_maxLen w (N + 1) N 164 (by unfold maxLen; omega)
  rw [hc2] at hap hc2ge hc2le
  obtain ⟨L0, hL0⟩ : ∃ L0, ((row (ent fb) l).take (i * 2)).toArray ++ Builtin.zeroCells (Value.agg #[.string ⟨#[]⟩, .pointer none]).cells k ++ Builtin.zeroCells (Value.agg #[.string ⟨#[]⟩, .pointer none]).cells (c2 - (N + 1)) = L0 := ⟨_, rfl⟩
  rw [hL0] at hap
  have hzs : (Value.agg #[.string ⟨#[]⟩, .pointer none]).cells.size = 2 := by kernel_rfl
  have hL0s : L0.size = c2 * 2 := by
    rw [← hL0]
    simp only [Array.size_append, List.size_toArray, size_zeroCells, hzs, hl0]
    omega
  have hL0l : L0.toList.length = c2 * 2 := by rw [Array.length_toList]; exact hL0s
  have hL0t : L0.toList.take (i * 2) = (row (ent fb) l).take (i * 2) := by
    rw [← hL0]
    simp only [Array.toList_append, List.append_assoc]
    exact List.take_left' hl0
  obtain ⟨w1, hw1⟩ : ∃ w1, w.drew.alloc (.cells L0 164) = w1 := ⟨_, rfl⟩
  have hg1 : w1.heap[w.heap.size]? = some (.cells L0 164 (0, 0)) := by rw [← hw1]; exact heap_alloc_new w.drew _
  have hK1 : Kept (fun k => some g = some k) w w1 := by rw [← hw1]; exact ((Kept.refl _ w).drew).alloc _
  rw [hw1] at hap
  -- the entry
  have hsD1 := slice_l_C (P := Tryz.prog) 2 (some ⟨w.heap.size, 0, none⟩) (N + 1) c2 91 _ hT Tryz.sizeEnt i (by omega)
  rw [sliced_at _ _ _ _ _ _ (by omega), Nat.zero_add] at hsD1
  have hcp1 := fun ty => run_copy_X (P := Tryz.prog) w1 91 90 ty _ 2 w.heap.size (i * 2) (N + 1 - i) (c2 - i) ⟨a, 0, none⟩ 1 1 1 L0 _ (ent fb (n, f)) hT Tryz.sizeEnt hg1 (by simp only [Nat.min_def]; split <;> omega) rfl
      (srcOf (hS.kept hK1 (fun j hj he => by
        have e1 : a = j := by simpa [Value.ownBlock] using hj.2
        have e2 : g = j := by simpa using he
        omega))) (by rw [hL0s]; show i * 2 + 2 ≤ _; omega) ent_mem
  obtain ⟨L1, hL1⟩ : ∃ L1, (L0.toList.take (i * 2) ++ ent fb (n, f) ++ L0.toList.drop (i * 2 + (ent fb (n, f)).length)) = L1 := ⟨_, rfl⟩
  rw [hL1] at hcp1
  obtain ⟨w2, hw2⟩ : ∃ w2, w1.setRow w.heap.size L1.toArray = w2 := ⟨_, rfl⟩
  have hg2 : w2.heap[w.heap.size]? = some (.cells L1.toArray 164 (0, 0)) := by rw [← hw2]; exact setRow_heap w1 _ L0 _ _ _ hg1
  have hK2 : Kept (fun k => some g = some k) w w2 := by rw [← hw2]; exact hK1.setRow (.inr (Nat.le_refl _)) _
  rw [hw2] at hcp1
  have hL1s : L1.length = c2 * 2 := by
    rw [← hL1]
    simp only [List.length_append, List.length_take, List.length_drop, Array.length_toList, hL0s]
    show min (i * 2) (c2 * 2) + 2 + (c2 * 2 - (i * 2 + 2)) = _
    omega
  -- what stood behind
  have hsD2 := slice_l_C (P := Tryz.prog) 2 (some ⟨w.heap.size, 0, none⟩) (N + 1) c2 91 _ hT Tryz.sizeEnt (i + 1) (by omega)
  rw [sliced_at _ _ _ _ _ _ (by omega), Nat.zero_add, show N + 1 - (i + 1) = N - i from by omega] at hsD2
  have hXI2 : IsX w2.drew 2 (.slice (some ⟨g, i * 2, none⟩) (N - i) (N - i)) (N - i) ((row (ent fb) l).drop (i * 2)) := by
    refine hXI.kept (S := fun k => w.heap.size ≤ k) ?_ (fun j hj he => ?_)
    · rw [← hw2, ← hw1]
      exact ((((Kept.refl _ w).drew).alloc _).setRow (.inl (Nat.le_refl _)) _).drew
    · have e1 : g = j := by simpa [Value.ownBlock] using hj.2
      omega
  have hcp2 := fun ty => run_copy_X (P := Tryz.prog) w2.drew 91 91 ty _ 2 w.heap.size ((i + 1) * 2) (N - i) (c2 - (i + 1)) ⟨g, i * 2, none⟩ (N - i) (N - i) (N - i) L1.toArray _ ((row (ent fb) l).drop (i * 2)) hT Tryz.sizeEnt hg2 (by simp only [Nat.min_def]; split <;> omega) hlB
      (srcOf hXI2) (by rw [List.size_toArray, hL1s, hlB]; omega) (fun u hu => ent_one fb l u (List.mem_of_mem_drop hu))
  obtain ⟨L2, hL2⟩ : ∃ L2, (L1.toArray.toList.take ((i + 1) * 2) ++ (row (ent fb) l).drop (i * 2) ++ L1.toArray.toList.drop ((i + 1) * 2 + ((row (ent fb) l).drop (i * 2)).length)) = L2 := ⟨_, rfl⟩
  rw [hL2] at hcp2
  obtain ⟨w3, hw3⟩ : ∃ w3, w2.drew.setRow w.heap.size L2.toArray = w3 := ⟨_, rfl⟩
  have hg3 : w3.heap[w.heap.size]? = some (.cells L2.toArray 164 (0, 0)) := by rw [← hw3]; exact setRow_heap w2.drew _ L1.toArray _ _ _ hg2
  have hK3 : Kept (fun k => some g = some k) w w3 := by rw [← hw3]; exact (hK2.drew).setRow (.inr (Nat.le_refl _)) _
  rw [hw3] at hcp2
  have hlist := ins_list2 L0.toList ((row (ent fb) l).take (i * 2)) (ent fb (n, f)) ((row (ent fb) l).drop (i * 2)) (i * 2) 2 hL0t rfl (by rw [hL0l, hlB]; omega)
  rw [show i * 2 + 2 = i * 2 + (ent fb (n, f)).length from rfl, hL1, show i * 2 + (ent fb (n, f)).length = (i + 1) * 2 from by show i * 2 + 2 = _; omega] at hlist
  rw [show L1 = L1.toArray.toList from rfl, hL2, hlB, show (i + 1) * 2 + (N - i) * 2 = (N + 1) * 2 from by omega] at hlist
  have hO3 : w3.ownsRow 0 164 2 (.slice (some ⟨w.heap.size, 0, none⟩) (N + 1) c2) (N + 1) (row (ent fb) (l.take i ++ (n, f) :: l.drop i)) := by
    have e : row (ent fb) (l.take i ++ (n, f) :: l.drop i) = (row (ent fb) l).take (i * 2) ++ ent fb (n, f) ++ (row (ent fb) l).drop (i * 2) := by
      rw [row_append, row_cons, row_take (ent_len fb), row_drop (ent_len fb), List.append_assoc]
    rw [e]
    refine ⟨by simp only [List.length_append, hl0, hlB]; show i * 2 + 2 + _ = _; omega, .inr ⟨w.heap.size, c2, _, rfl, Nat.zero_le _, hg3, hc2ge, hc2le, ?_, ?_⟩⟩
    · rw [List.size_toArray, hlist.2, hL0l]
    · rw [List.toList_toArray]
      exact hlist.1
  have HO := Lib.hid hO3
  have HK := Lib.hid hK3
  have HAP := Lib.hid hap
  have HC1 := Lib.hid hcp1
  have HC2 := Lib.hid hcp2
  have hne : ((i : Int) == (N : Int)) = false := by simp; omega
  have hgt : ¬ ((N : Int) + 1 ≤ (N : Int)) := by omega
  have hkk : (N : Int) + 1 - (i : Int) = (k : Int) := by omega
  have hS1 := fun W => len_X (P := Tryz.prog) hS 90 3 _ Tryz.underlying90 W
  have hcap := fun (W : World) (ty : TypeId) => run_cap_slice (P := Tryz.prog) W 91 ty (some ⟨g, 0, none⟩) N N (by simp [Program.elem, hT])
  rw [show ((i + 1 : Nat) : Int) = (i : Int) + 1 from rfl] at hsD2
  have HB := Lib.hid (show Value.ownBlock (.slice (some ⟨w.heap.size, 0, none⟩) (N + 1) c2) = some w.heap.size from rfl)
  have hwr : IntKind.i64.wrap ((i : Int) + 1) = (i : Int) + 1 := IntWalk.i64_in _ (by omega)
  refine (walk_grow _ _ _ _ _ _ _ i N k w w1 w2 w3 hi hl hkk hne hgt hlen hcap hS1 hsI hs0 hsD1 hsD2 HAP _ _ HC1 HC2 hwr).mono fun e w' => ?_
  rintro ⟨rfl, rfl⟩
  exact ⟨_, rfl, HO.out, HK.out, .inr HB.out⟩

set_option maxRecDepth 100000 in
set_option maxHeartbeats 2000000 in
/-- In the midst, where there is room. -/
theorem tins_room (fb : Nat → Nat) (l : Tbl) (n : ByteArray) (f a g i N cap : Nat) (w : World) (hv : w.ownsRow 0 164 2 (.slice (some ⟨g, 0, none⟩) N cap) N (row (ent fb) l)) (hN : l.length = N) (hi : i < N) (hl : N ≤ 1048576) (hroom : N + 1 ≤ cap) (hcm : cap ≤ maxLen) (hga : g ≠ a)
    (ha : w.heap[a]? = some (.cells #[.string n, .pointer (some ⟨fb f, 0, none⟩)] 164 (0, 0))) :
    Calls Tryz.prog 136 #[.slice (some ⟨g, 0, none⟩) N cap, .int .i64 (i : Int), .slice (some ⟨a, 0, none⟩) 1 1] w fun e w' =>
      ∃ v', e = .returned v' ∧ w'.ownsRow 0 164 2 v' (N + 1) (row (ent fb) (l.take i ++ (n, f) :: l.drop i)) ∧ Kept (fun k => some g = some k) w w' ∧ (v'.ownBlock = some g ∨ v'.ownBlock = some w.heap.size) := by
  obtain ⟨i0, hinf, hz0, hz1, hz2⟩ := info_parts Tryz.infoEnt
  have hT := Tryz.underlying91
  have hX := IsX.own hv
  have hS := entX ha
  have hlr := length_row (ent_len fb) l
  rw [hN] at hlr
  rcases hv.2 with ⟨hbad, _⟩ | ⟨g', cap', cur, he, _, hg, _, _, hcs, htake⟩
  · cases hbad
  cases he
  have halt : a < w.heap.size := (Array.getElem?_eq_some_iff.1 ha).1
  have hsI := slice_l_X (P := Tryz.prog) hX 91 _ hT Tryz.sizeEnt i (by omega)
  rw [sliced_at _ _ _ _ _ _ (by omega), Nat.zero_add] at hsI
  have hlB : ((row (ent fb) l).drop (i * 2)).length = (N - i) * 2 := by rw [List.length_drop, hlr]; omega
  have hlen := fun W => len_X (P := Tryz.prog) hX 91 3 _ hT W
  have hs3 := slice_h_X (P := Tryz.prog) 2 (some ⟨g, 0, none⟩) N cap 91 _ hT Tryz.sizeEnt (N + 1) hroom
  have hsD := slice_l_C (P := Tryz.prog) 2 (some ⟨g, 0, none⟩) (N + 1) cap 91 _ hT Tryz.sizeEnt (i + 1) (by omega)
  rw [sliced_at _ _ _ _ _ _ (by omega), Nat.zero_add, show N + 1 - (i + 1) = N - i from by omega] at hsD
  have hsS := slice_l_C (P := Tryz.prog) 2 (some ⟨g, 0, none⟩) (N + 1) cap 91 _ hT Tryz.sizeEnt i (by omega)
  rw [sliced_at _ _ _ _ _ _ (by omega), Nat.zero_add] at hsS
  have hsz : ∀ W, (sizeOf 164).run Tryz.prog W = .ok 2 W := fun W => by simp [sizeOf, typeInfo, hinf, hz1]
  have hov : (callFunc 151 #[.slice (some ⟨a, 0, none⟩) 1 1, .slice (some ⟨g, (i + 1) * 2, none⟩) (N - i) (cap - (i + 1))]).run Tryz.prog w = .ok (.value (.bool false)) w := by
    rw [run_callFunc_extern Tryz.func151 (by kernel_rfl) (by kernel_rfl) (by kernel_rfl) (e := Extern.SlicesOverlaps.overlaps #[90, 90] #[4]) (by kernel_rfl),
      Lib.run_overlaps_apart w 90 4 164 Tryz.underlying90 2 hsz ⟨a, 0, none⟩ ⟨g, (i + 1) * 2, none⟩ 1 1 (N - i) (cap - (i + 1)) (fun e => hga e.symm) 164 164 2 cur.size (by simp [World.shape?, ha]) (by simp [World.shape?, hg]) (by rw [hcs]; omega) (frozen_of_row w a 0 _ _ ha) (frozen_of_row w a 2 _ _ ha)]
    rfl
  have hL0l : cur.toList.length = cap * 2 := by rw [Array.length_toList]; exact hcs
  have hL0t : cur.toList.take (i * 2) = (row (ent fb) l).take (i * 2) := by
    rw [← htake, List.take_take, Nat.min_eq_left (by omega)]
  have hcp1 := fun ty => run_copy_X (P := Tryz.prog) w.drew 91 91 ty _ 2 g ((i + 1) * 2) (N - i) (cap - (i + 1)) ⟨g, i * 2, none⟩ (N + 1 - i) (cap - i) (N - i) cur _ ((row (ent fb) l).drop (i * 2)) hT Tryz.sizeEnt hg (by simp only [Nat.min_def]; split <;> omega) hlB
      (fun j u hj => by
        rw [add_lit]
        have hjl := (List.getElem?_eq_some_iff.1 hj).1
        rw [List.getElem?_drop] at hj
        rw [hlB] at hjl
        show w.cell? _ = _
        rw [hv.cellAt (i * 2 + j) (by omega)]
        exact hj) (by rw [hcs, hlB]; omega) (fun u hu => ent_one fb l u (List.mem_of_mem_drop hu))
  obtain ⟨L1, hL1⟩ : ∃ L1, (cur.toList.take ((i + 1) * 2) ++ (row (ent fb) l).drop (i * 2) ++ cur.toList.drop ((i + 1) * 2 + ((row (ent fb) l).drop (i * 2)).length)) = L1 := ⟨_, rfl⟩
  rw [hL1] at hcp1
  obtain ⟨w2, hw2⟩ : ∃ w2, w.drew.setRow g L1.toArray = w2 := ⟨_, rfl⟩
  have hg2 : w2.heap[g]? = some (.cells L1.toArray 164 (0, 0)) := by rw [← hw2]; exact setRow_heap w.drew _ cur _ _ _ hg
  have hK2 : Kept (fun k => some g = some k) w w2 := by rw [← hw2]; exact Kept.setRow (S := fun k => some g = some k) ((Kept.refl _ w).drew) (.inl rfl) _
  rw [hw2] at hcp1
  have hL1s : L1.length = cap * 2 := by
    rw [← hL1]
    simp only [List.length_append, List.length_take, List.length_drop, hL0l]
    omega
  have hcp2 := fun ty => run_copy_X (P := Tryz.prog) w2 91 90 ty _ 2 g (i * 2) (N + 1 - i) (cap - i) ⟨a, 0, none⟩ 1 1 1 L1.toArray _ (ent fb (n, f)) hT Tryz.sizeEnt hg2 (by simp only [Nat.min_def]; split <;> omega) rfl
      (srcOf (hS.kept hK2 (fun j hj he => by
        have e1 : a = j := by simpa [Value.ownBlock] using hj.2
        have e2 : g = j := by simpa using he
        omega))) (by rw [List.size_toArray, hL1s]; show i * 2 + 2 ≤ _; omega) ent_mem
  obtain ⟨L2, hL2⟩ : ∃ L2, (L1.toArray.toList.take (i * 2) ++ ent fb (n, f) ++ L1.toArray.toList.drop (i * 2 + (ent fb (n, f)).length)) = L2 := ⟨_, rfl⟩
  rw [hL2] at hcp2
  obtain ⟨w3, hw3⟩ : ∃ w3, w2.setRow g L2.toArray = w3 := ⟨_, rfl⟩
  have hg3 : w3.heap[g]? = some (.cells L2.toArray 164 (0, 0)) := by rw [← hw3]; exact setRow_heap w2 _ L1.toArray _ _ _ hg2
  have hK3 : Kept (fun k => some g = some k) w w3 := by rw [← hw3]; exact hK2.setRow (.inl rfl) _
  rw [hw3] at hcp2
  have hlist := ins_list cur.toList ((row (ent fb) l).take (i * 2)) (ent fb (n, f)) ((row (ent fb) l).drop (i * 2)) (i * 2) 2 hL0t rfl (by rw [hL0l, hlB]; omega)
  rw [show i * 2 + 2 = (i + 1) * 2 from by omega, hL1, show (i + 1) * 2 = i * 2 + (ent fb (n, f)).length from by show _ = i * 2 + 2; omega] at hlist
  rw [show L1 = L1.toArray.toList from rfl, hL2, hlB, show i * 2 + (ent fb (n, f)).length + (N - i) * 2 = (N + 1) * 2 from by show i * 2 + 2 + _ = _; omega] at hlist
  have hl0 : ((row (ent fb) l).take (i * 2)).length = i * 2 := by rw [List.length_take, hlr]; omega
  have hO3 : w3.ownsRow 0 164 2 (.slice (some ⟨g, 0, none⟩) (N + 1) cap) (N + 1) (row (ent fb) (l.take i ++ (n, f) :: l.drop i)) := by
    have e : row (ent fb) (l.take i ++ (n, f) :: l.drop i) = (row (ent fb) l).take (i * 2) ++ ent fb (n, f) ++ (row (ent fb) l).drop (i * 2) := by
      rw [row_append, row_cons, row_take (ent_len fb), row_drop (ent_len fb), List.append_assoc]
    rw [e]
    refine ⟨by simp only [List.length_append, hl0, hlB]; show i * 2 + 2 + _ = _; omega, .inr ⟨g, cap, _, rfl, Nat.zero_le _, hg3, hroom, hcm, ?_, ?_⟩⟩
    · rw [List.size_toArray, hlist.2, hL0l]
    · rw [List.toList_toArray]
      exact hlist.1
  have HO := Lib.hid hO3
  have HK := Lib.hid hK3
  have HC1 := Lib.hid hcp1
  have HC2 := Lib.hid hcp2
  have hne : ((i : Int) == (N : Int)) = false := by simp; omega
  have hgt : ((N : Int) + 1 ≤ (cap : Int)) := by omega
  have hS1 := fun W => len_X (P := Tryz.prog) hS 90 3 _ Tryz.underlying90 W
  have hcap := fun (W : World) (ty : TypeId) => run_cap_slice (P := Tryz.prog) W 91 ty (some ⟨g, 0, none⟩) N cap (by simp [Program.elem, hT])
  rw [show ((i + 1 : Nat) : Int) = (i : Int) + 1 from rfl] at hsD
  rw [show ((N + 1 : Nat) : Int) = (N : Int) + 1 from rfl] at hs3
  have HB := Lib.hid (show Value.ownBlock (.slice (some ⟨g, 0, none⟩) (N + 1) cap) = some g from rfl)
  have hwr : IntKind.i64.wrap ((i : Int) + 1) = (i : Int) + 1 := IntWalk.i64_in _ (by omega)
  refine (walk_room _ _ _ _ _ _ i N cap w w2 w3 hi hl hne hgt hlen hcap hS1 hsI hs3 hsS hsD hov _ _ HC1 HC2 hwr).mono fun e w' => ?_
  rintro ⟨rfl, rfl⟩
  exact ⟨_, rfl, HO.out, HK.out, .inl HB.out⟩

/-- An entry laid in. -/
theorem tins_any (fb : Nat → Nat) (v : Value) (l : Tbl) (n : ByteArray) (f a i : Nat) (w : World) (hv : w.ownsRow 0 164 2 v l.length (row (ent fb) l)) (hi : i ≤ l.length) (hl : l.length ≤ 1048576) (hva : v.ownBlock ≠ some a)
    (ha : w.heap[a]? = some (.cells #[.string n, .pointer (some ⟨fb f, 0, none⟩)] 164 (0, 0))) :
    Calls Tryz.prog 136 #[v, .int .i64 (i : Int), .slice (some ⟨a, 0, none⟩) 1 1] w fun e w' =>
      ∃ v', e = .returned v' ∧ w'.ownsRow 0 164 2 v' (l.length + 1) (row (ent fb) (l.take i ++ (n, f) :: l.drop i)) ∧ Kept (fun k => v.ownBlock = some k) w w' ∧ (v'.ownBlock = v.ownBlock ∨ v'.ownBlock = some w.heap.size) := by
  by_cases h : i = l.length
  · subst h
    have := tins_end fb v l n f a w hv hl ha
    rw [List.take_length, List.drop_length]
    exact this
  · rcases hv.2 with ⟨rfl, h0⟩ | ⟨g, cap, cur, rfl, _, hg, hnc, hcm, _⟩
    · omega
    · have hga : g ≠ a := fun e => hva (by rw [← e]; rfl)
      by_cases hr : l.length + 1 ≤ cap
      · exact tins_room fb l n f a g i l.length cap w hv rfl (by omega) hl hr hcm hga ha
      · exact tins_grow fb l n f a g i l.length cap w hv rfl (by omega) hl (by omega) hcm hga ha

end Go.Proofs.YtllbngopfganjaaGreatDoor
end

section
namespace Go.Proofs.YtllbngopfganjaaGreatDoor
open Go.RowKit Go.Cor

theorem BoxD.facts {w : World} {g : Nat} {a b : ByteArray} {q : Option Addr} {T : TypeId} (h : Blk w g #[.string a, .string b, .pointer q] T) :
    w.cell? ⟨g, 0, none⟩ = some (.string a) ∧ w.cell? ⟨g, 1, none⟩ = some (.string b) ∧ w.cell? ⟨g, 2, none⟩ = some (.pointer q) := ⟨h.cell 0 rfl, h.cell 1 rfl, h.cell 2 rfl⟩
theorem wout_some {l : Tbl} (hs : Sorted l) {n : ByteArray} {f : Nat} (h : tfind l n = some f) : l.eraseIdx (pos l n) = wout l n ∧ pos l n < l.length := ⟨erase_pos hs h, (List.getElem?_eq_some_iff.1 (tfind_at hs h)).1⟩

/-- What a change of a table leaves. -/
def Tabled (fb : Nat → Nat) (w : World) (v : Value) (t : Tbl) (e : Ending) (w' : World) : Prop :=
  ∃ v', e = .returned v' ∧ w'.ownsRow 0 164 2 v' t.length (row (ent fb) t) ∧ Kept (fun k => v.ownBlock = some k) w w' ∧ (∀ k, v'.ownBlock = some k → v.ownBlock = some k ∨ w.heap.size ≤ k)

theorem Tabled.mk {fb : Nat → Nat} {w w' : World} {v v' : Value} {t : Tbl} (h1 : w'.ownsRow 0 164 2 v' t.length (row (ent fb) t)) (h2 : Kept (fun k => v.ownBlock = some k) w w') (h3 : ∀ k, v'.ownBlock = some k → v.ownBlock = some k ∨ w.heap.size ≤ k) : Tabled fb w v t (.returned v') w' := ⟨v', rfl, h1, h2, h3⟩
theorem empty_toList : noName.toList.isEmpty = true := by rw [Lib.toList_data]; rfl
theorem some_toList {s : ByteArray} (h : s ≠ noName) : s.toList.isEmpty = false := by
  rw [Lib.toList_data]
  cases hd : s.data.toList with
  | cons => rfl
  | nil => exact absurd (ByteArray.ext (Array.toList_eq_nil_iff.1 hd)) h

set_option maxRecDepth 100000 in
set_option maxHeartbeats 4000000 in
theorem behind_0e (fb : Nat → Nat) (v : Value) (l : Tbl) (src dst : ByteArray) (q : Option Addr) (f : Nat) (w : World) (hv : w.ownsRow 0 164 2 v l.length (row (ent fb) l)) (hs : Sorted l) (hl : l.length ≤ 1048575) (ha : Hid (tfind l src = none)) (hd : Hid (dst = noName)) :
    Calls Tryz.prog 110 #[v, .agg #[.string src, .string dst, .pointer q]] w (Tabled fb w v l) := by
  have hvlt := fun k hk => (hv.lt k hk).2
  have HX0 := Lib.hid (Blk.new w #[.string src, .string dst, .pointer q] 174)
  have HK0 := Lib.hid ((Kept.refl (fun k => v.ownBlock = some k) w).alloc (.cells #[.string src, .string dst, .pointer q] 174))
  have HO0 := Lib.hid (ownsRow_kept hv ((Kept.refl (fun _ => False) w).alloc (.cells #[.string src, .string dst, .pointer q] 174)) (fun _ _ h => h))
  have hB : ¬ v.ownBlock = some w.heap.size := fun e => by have := hvlt _ e; omega
  have hsz0 : (w.alloc (.cells #[.string src, .string dst, .pointer q] 174)).heap.size = w.heap.size + 1 := by simp
  have HSZ := Lib.hid hsz0
  have HVL := Lib.hid hvlt
  have HBN := Lib.hid hB
  have hpl := pos_le l src
  clear hsz0 hv hvlt hB
  go_enter Tryz.func110, Tryz.ntmps110
  go_wp2_with fail
  refine (place_any fb v l src _ (IsX.own HO0.out) hs (by omega)).mono ?_
  rintro e w1 ⟨rfl, hb1⟩
  have hs1 : w.heap.size < w1.heap.size := by have := hb1.size; rw [HSZ.out] at this; omega
  have HX1 := Lib.hid (HX0.out.below hb1 (by rw [HSZ.out]; omega))
  have HK1 := Lib.hid (HK0.out.trans (Kept.of_below (S := fun _ => False) hb1 (Nat.le_refl _)) (fun _ h => h.elim))
  have HO1 := Lib.hid (ownsRow_below HO0.out hb1 (Nat.le_refl _))
  clear hb1 HX0 HK0 HO0
  rw [show (tfind l src).isSome = false from by rw [ha.out]; rfl]
  obtain ⟨c0, c1, c2⟩ := BoxD.facts HX1.out
  have he : dst.toList.isEmpty = true := by rw [hd.out]; exact empty_toList
  go_wp2
  go_ret
  exact Tabled.mk HO1.out HK1.out (fun k hk => .inl (by rw [← (show v.ownBlock = v.ownBlock from rfl)]; exact hk))

set_option maxRecDepth 100000 in
set_option maxHeartbeats 4000000 in
theorem behind_0s (fb : Nat → Nat) (v : Value) (l : Tbl) (src dst : ByteArray) (q : Option Addr) (f : Nat) (w : World) (hv : w.ownsRow 0 164 2 v l.length (row (ent fb) l)) (hs : Sorted l) (hl : l.length ≤ 1048575) (ha : Hid (tfind l src = none)) (hd : Hid (dst ≠ noName)) (hq : Hid (q = some ⟨fb f, 0, none⟩)) (g0 : Nat) (hg : Hid (tfind l dst = some g0)) :
    Calls Tryz.prog 110 #[v, .agg #[.string src, .string dst, .pointer q]] w (Tabled fb w v (wth l dst f)) := by
  have hvlt := fun k hk => (hv.lt k hk).2
  have HX0 := Lib.hid (Blk.new w #[.string src, .string dst, .pointer q] 174)
  have HK0 := Lib.hid ((Kept.refl (fun k => v.ownBlock = some k) w).alloc (.cells #[.string src, .string dst, .pointer q] 174))
  have HO0 := Lib.hid (ownsRow_kept hv ((Kept.refl (fun _ => False) w).alloc (.cells #[.string src, .string dst, .pointer q] 174)) (fun _ _ h => h))
  have hB : ¬ v.ownBlock = some w.heap.size := fun e => by have := hvlt _ e; omega
  have hsz0 : (w.alloc (.cells #[.string src, .string dst, .pointer q] 174)).heap.size = w.heap.size + 1 := by simp
  have HSZ := Lib.hid hsz0
  have HVL := Lib.hid hvlt
  have HBN := Lib.hid hB
  have hpl := pos_le l src
  clear hsz0 hv hvlt hB
  go_enter Tryz.func110, Tryz.ntmps110
  go_wp2_with fail
  refine (place_any fb v l src _ (IsX.own HO0.out) hs (by omega)).mono ?_
  rintro e w1 ⟨rfl, hb1⟩
  have hs1 : w.heap.size < w1.heap.size := by have := hb1.size; rw [HSZ.out] at this; omega
  have HX1 := Lib.hid (HX0.out.below hb1 (by rw [HSZ.out]; omega))
  have HK1 := Lib.hid (HK0.out.trans (Kept.of_below (S := fun _ => False) hb1 (Nat.le_refl _)) (fun _ h => h.elim))
  have HO1 := Lib.hid (ownsRow_below HO0.out hb1 (Nat.le_refl _))
  clear hb1 HX0 HK0 HO0
  rw [show (tfind l src).isSome = false from by rw [ha.out]; rfl]
  obtain ⟨c0, c1, c2⟩ := BoxD.facts HX1.out
  have he : dst.toList.isEmpty = false := some_toList hd.out
  have hpt := pos_le l dst
  go_wp2_with fail
  refine (place_any fb v l dst _ (IsX.own HO1.out) hs (by omega)).mono ?_
  rintro e w3 ⟨rfl, hb3⟩
  have hs3 : w.heap.size < w3.heap.size := Nat.lt_of_lt_of_le hs1 hb3.size
  have HX3 := Lib.hid (HX1.out.below hb3 hs1)
  have HK3 := Lib.hid (HK1.out.trans (Kept.of_below (S := fun _ => False) hb3 (Nat.le_refl _)) (fun _ h => h.elim))
  have HO3 := Lib.hid (ownsRow_below HO1.out hb3 (Nat.le_refl _))
  clear hb3 HX1 HK1 HO1 hs1 c0 c1 c2
  obtain ⟨c0, c1, c2⟩ := BoxD.facts HX3.out
  rw [show (tfind l dst).isSome = true from by rw [hg.out]; rfl]
  have hat := tfind_at hs hg.out
  have hpl2 : pos l dst < l.length := (List.getElem?_eq_some_iff.1 hat).1
  obtain ⟨g, hgo, hidx, hcells, hfree, hst⟩ := indexAt_own HO3.out 91 _ Tryz.underlying91 Tryz.sizeEnt (pos l dst) hpl2
  have hc1 := hcells 1 (by decide)
  rw [row_get (ent_len fb) hat 1 (by decide)] at hc1
  have hc1' : w3.cell? ⟨g, pos l dst * 2 + 1, none⟩ = some (.pointer (some ⟨fb g0, 0, none⟩)) := hc1
  have hf1 := hfree (pos l dst * 2 + 1)
  have HST := Lib.hid (hst (pos l dst * 2 + 1) (.pointer q))
  have HG := Lib.hid hgo
  have HAT := Lib.hid hat
  clear hcells hfree hst hgo hat hc1
  go_wp2
  go_ret
  refine Tabled.mk (v' := v) ?_ (HK3.out.setCell (p := ⟨g, pos l dst * 2 + 1, none⟩) (.inl ?_) (.pointer q)) (fun k hk => .inl (by rw [← (show v.ownBlock = v.ownBlock from rfl)]; exact hk))
  · have h := HST.out
    rw [row_set (ent_len fb) HAT.out 1 (by decide) (.pointer q) (y := (dst, f)) (by rw [hq.out]; rfl), set_pos hs hg.out] at h
    have hlen : (wth l dst f).length = l.length := by rw [← set_pos hs hg.out, List.length_set]
    rw [hlen]
    exact h
  · rw [← (show v.ownBlock = v.ownBlock from rfl)]
    exact HG.out

set_option maxRecDepth 100000 in
set_option maxHeartbeats 4000000 in
theorem behind_0i (fb : Nat → Nat) (v : Value) (l : Tbl) (src dst : ByteArray) (q : Option Addr) (f : Nat) (w : World) (hv : w.ownsRow 0 164 2 v l.length (row (ent fb) l)) (hs : Sorted l) (hl : l.length ≤ 1048575) (ha : Hid (tfind l src = none)) (hd : Hid (dst ≠ noName)) (hq : Hid (q = some ⟨fb f, 0, none⟩)) (hg : Hid (tfind l dst = none)) :
    Calls Tryz.prog 110 #[v, .agg #[.string src, .string dst, .pointer q]] w (Tabled fb w v (wth l dst f)) := by
  have hvlt := fun k hk => (hv.lt k hk).2
  have HX0 := Lib.hid (Blk.new w #[.string src, .string dst, .pointer q] 174)
  have HK0 := Lib.hid ((Kept.refl (fun k => v.ownBlock = some k) w).alloc (.cells #[.string src, .string dst, .pointer q] 174))
  have HO0 := Lib.hid (ownsRow_kept hv ((Kept.refl (fun _ => False) w).alloc (.cells #[.string src, .string dst, .pointer q] 174)) (fun _ _ h => h))
  have hB : ¬ v.ownBlock = some w.heap.size := fun e => by have := hvlt _ e; omega
  have hsz0 : (w.alloc (.cells #[.string src, .string dst, .pointer q] 174)).heap.size = w.heap.size + 1 := by simp
  have HSZ := Lib.hid hsz0
  have HVL := Lib.hid hvlt
  have HBN := Lib.hid hB
  have hpl := pos_le l src
  clear hsz0 hv hvlt hB
  go_enter Tryz.func110, Tryz.ntmps110
  go_wp2_with fail
  refine (place_any fb v l src _ (IsX.own HO0.out) hs (by omega)).mono ?_
  rintro e w1 ⟨rfl, hb1⟩
  have hs1 : w.heap.size < w1.heap.size := by have := hb1.size; rw [HSZ.out] at this; omega
  have HX1 := Lib.hid (HX0.out.below hb1 (by rw [HSZ.out]; omega))
  have HK1 := Lib.hid (HK0.out.trans (Kept.of_below (S := fun _ => False) hb1 (Nat.le_refl _)) (fun _ h => h.elim))
  have HO1 := Lib.hid (ownsRow_below HO0.out hb1 (Nat.le_refl _))
  clear hb1 HX0 HK0 HO0
  rw [show (tfind l src).isSome = false from by rw [ha.out]; rfl]
  obtain ⟨c0, c1, c2⟩ := BoxD.facts HX1.out
  have he : dst.toList.isEmpty = false := some_toList hd.out
  have hpt := pos_le l dst
  go_wp2_with fail
  refine (place_any fb v l dst _ (IsX.own HO1.out) hs (by omega)).mono ?_
  rintro e w3 ⟨rfl, hb3⟩
  have hs3 : w.heap.size < w3.heap.size := Nat.lt_of_lt_of_le hs1 hb3.size
  have HX3 := Lib.hid (HX1.out.below hb3 hs1)
  have HK3 := Lib.hid (HK1.out.trans (Kept.of_below (S := fun _ => False) hb3 (Nat.le_refl _)) (fun _ h => h.elim))
  have HO3 := Lib.hid (ownsRow_below HO1.out hb3 (Nat.le_refl _))
  clear hb3 HX1 HK1 HO1 hs1 c0 c1 c2
  obtain ⟨c0, c1, c2⟩ := BoxD.facts HX3.out
  rw [show (tfind l dst).isSome = false from by rw [hg.out]; rfl]
  have HX4 := Lib.hid (Blk.new w3 #[.string dst, .pointer q] 164)
  have HK4 := Lib.hid (HK3.out.alloc (.cells #[.string dst, .pointer q] 164))
  have HO4 := Lib.hid (ownsRow_kept HO3.out ((Kept.refl (fun _ => False) w3).alloc (.cells #[.string dst, .pointer q] 164)) (fun _ _ h => h))
  have HB4 := Lib.hid (show v.ownBlock ≠ some w3.heap.size from fun e => by have := (HO3.out.lt _ e).2; omega)
  go_wp2_with fail
  refine (tins_any fb v l dst f w3.heap.size (pos l dst) _ HO4.out hpt (by omega) HB4.out (by have h := HX4.out; unfold Blk at h; rw [h, hq.out])).mono ?_
  rintro e w5 ⟨v5, rfl, hown5, hk5, hl5⟩
  have hK5 : Kept (fun k => v.ownBlock = some k) w w5 := HK4.out.trans hk5 (fun j hj _ => by rw [← (show v.ownBlock = v.ownBlock from rfl)]; exact hj)
  have hV5 : ∀ k, v5.ownBlock = some k → v.ownBlock = some k ∨ w.heap.size ≤ k := fun k hk => by
    rcases hl5 with h | h
    · exact .inl (by rw [← (show v.ownBlock = v.ownBlock from rfl), ← h]; exact hk)
    · rw [h] at hk
      have : (w3.alloc (.cells #[.string dst, .pointer q] 164)).heap.size = k := by simpa using hk
      have h2 : (w3.alloc (.cells #[.string dst, .pointer q] 164)).heap.size = w3.heap.size + 1 := by simp
      exact .inr (by omega)
  have hO5 : w5.ownsRow 0 164 2 v5 (wth l dst f).length (row (ent fb) (wth l dst f)) := by
    rw [ins_pos hg.out] at hown5
    have hlen : (wth l dst f).length = l.length + 1 := by rw [wth_length, wout_none hg.out]
    rw [hlen]
    exact hown5
  have HE := Lib.hid (Tabled.mk hO5 hK5 hV5)
  clear hown5 hk5 hl5 hK5 hV5 hO5 c0 c1 c2
  go_wp2
  go_ret
  exact HE.out

set_option maxRecDepth 100000 in
set_option maxHeartbeats 4000000 in
theorem behind_1e (fb : Nat → Nat) (v : Value) (l : Tbl) (src dst : ByteArray) (q : Option Addr) (f : Nat) (w : World) (hv : w.ownsRow 0 164 2 v l.length (row (ent fb) l)) (hs : Sorted l) (hl : l.length ≤ 1048575) (f0 : Nat) (ha : Hid (tfind l src = some f0)) (hd : Hid (dst = noName)) :
    Calls Tryz.prog 110 #[v, .agg #[.string src, .string dst, .pointer q]] w (Tabled fb w v (wout l src)) := by
  have hvlt := fun k hk => (hv.lt k hk).2
  have HX0 := Lib.hid (Blk.new w #[.string src, .string dst, .pointer q] 174)
  have HK0 := Lib.hid ((Kept.refl (fun k => v.ownBlock = some k) w).alloc (.cells #[.string src, .string dst, .pointer q] 174))
  have HO0 := Lib.hid (ownsRow_kept hv ((Kept.refl (fun _ => False) w).alloc (.cells #[.string src, .string dst, .pointer q] 174)) (fun _ _ h => h))
  have hB : ¬ v.ownBlock = some w.heap.size := fun e => by have := hvlt _ e; omega
  have hsz0 : (w.alloc (.cells #[.string src, .string dst, .pointer q] 174)).heap.size = w.heap.size + 1 := by simp
  have HSZ := Lib.hid hsz0
  have HVL := Lib.hid hvlt
  have HBN := Lib.hid hB
  have hpl := pos_le l src
  clear hsz0 hv hvlt hB
  go_enter Tryz.func110, Tryz.ntmps110
  go_wp2_with fail
  refine (place_any fb v l src _ (IsX.own HO0.out) hs (by omega)).mono ?_
  rintro e w1 ⟨rfl, hb1⟩
  have hs1 : w.heap.size < w1.heap.size := by have := hb1.size; rw [HSZ.out] at this; omega
  have HX1 := Lib.hid (HX0.out.below hb1 (by rw [HSZ.out]; omega))
  have HK1 := Lib.hid (HK0.out.trans (Kept.of_below (S := fun _ => False) hb1 (Nat.le_refl _)) (fun _ h => h.elim))
  have HO1 := Lib.hid (ownsRow_below HO0.out hb1 (Nat.le_refl _))
  clear hb1 HX0 HK0 HO0
  rw [show (tfind l src).isSome = true from by rw [ha.out]; rfl]
  obtain ⟨c0, c1, c2⟩ := BoxD.facts HX1.out
  go_wp2_with fail
  refine (tdel_any fb v l (pos l src) _ HO1.out (wout_some hs ha.out).2 (by omega)).mono ?_
  rintro e w2 ⟨v1, rfl, hown2, hk2, hob⟩
  rw [(wout_some hs ha.out).1] at hown2
  have hs2 : w.heap.size < w2.heap.size := Nat.lt_of_lt_of_le hs1 hk2.size
  have HX2 := Lib.hid (HX1.out.kept hk2 HBN.out)
  have HK2 := Lib.hid (HK1.out.trans hk2 (fun j hj _ => hj))
  have HO2 := Lib.hid hown2
  have HOB := Lib.hid hob
  have HS2 := Lib.hid (wout_sorted hs src)
  have hl2 := wout_length l src
  clear hown2 hk2 hob HX1 HK1 HO1 hs1 c0 c1 c2
  obtain ⟨c0, c1, c2⟩ := BoxD.facts HX2.out
  have he : dst.toList.isEmpty = true := by rw [hd.out]; exact empty_toList
  go_wp2
  go_ret
  exact Tabled.mk HO2.out HK2.out (fun k hk => .inl (by rw [← (show v1.ownBlock = v.ownBlock from HOB.out)]; exact hk))

set_option maxRecDepth 100000 in
set_option maxHeartbeats 4000000 in
theorem behind_1s (fb : Nat → Nat) (v : Value) (l : Tbl) (src dst : ByteArray) (q : Option Addr) (f : Nat) (w : World) (hv : w.ownsRow 0 164 2 v l.length (row (ent fb) l)) (hs : Sorted l) (hl : l.length ≤ 1048575) (f0 : Nat) (ha : Hid (tfind l src = some f0)) (hd : Hid (dst ≠ noName)) (hq : Hid (q = some ⟨fb f, 0, none⟩)) (g0 : Nat) (hg : Hid (tfind (wout l src) dst = some g0)) :
    Calls Tryz.prog 110 #[v, .agg #[.string src, .string dst, .pointer q]] w (Tabled fb w v (wth (wout l src) dst f)) := by
  have hvlt := fun k hk => (hv.lt k hk).2
  have HX0 := Lib.hid (Blk.new w #[.string src, .string dst, .pointer q] 174)
  have HK0 := Lib.hid ((Kept.refl (fun k => v.ownBlock = some k) w).alloc (.cells #[.string src, .string dst, .pointer q] 174))
  have HO0 := Lib.hid (ownsRow_kept hv ((Kept.refl (fun _ => False) w).alloc (.cells #[.string src, .string dst, .pointer q] 174)) (fun _ _ h => h))
  have hB : ¬ v.ownBlock = some w.heap.size := fun e => by have := hvlt _ e; omega
  have hsz0 : (w.alloc (.cells #[.string src, .string dst, .pointer q] 174)).heap.size = w.heap.size + 1 := by simp
  have HSZ := Lib.hid hsz0
  have HVL := Lib.hid hvlt
  have HBN := Lib.hid hB
  have hpl := pos_le l src
  clear hsz0 hv hvlt hB
  go_enter Tryz.func110, Tryz.ntmps110
  go_wp2_with fail
  refine (place_any fb v l src _ (IsX.own HO0.out) hs (by omega)).mono ?_
  rintro e w1 ⟨rfl, hb1⟩
  have hs1 : w.heap.size < w1.heap.size := by have := hb1.size; rw [HSZ.out] at this; omega
  have HX1 := Lib.hid (HX0.out.below hb1 (by rw [HSZ.out]; omega))
  have HK1 := Lib.hid (HK0.out.trans (Kept.of_below (S := fun _ => False) hb1 (Nat.le_refl _)) (fun _ h => h.elim))
  have HO1 := Lib.hid (ownsRow_below HO0.out hb1 (Nat.le_refl _))
  clear hb1 HX0 HK0 HO0
  rw [show (tfind l src).isSome = true from by rw [ha.out]; rfl]
  obtain ⟨c0, c1, c2⟩ := BoxD.facts HX1.out
  go_wp2_with fail
  refine (tdel_any fb v l (pos l src) _ HO1.out (wout_some hs ha.out).2 (by omega)).mono ?_
  rintro e w2 ⟨v1, rfl, hown2, hk2, hob⟩
  rw [(wout_some hs ha.out).1] at hown2
  have hs2 : w.heap.size < w2.heap.size := Nat.lt_of_lt_of_le hs1 hk2.size
  have HX2 := Lib.hid (HX1.out.kept hk2 HBN.out)
  have HK2 := Lib.hid (HK1.out.trans hk2 (fun j hj _ => hj))
  have HO2 := Lib.hid hown2
  have HOB := Lib.hid hob
  have HS2 := Lib.hid (wout_sorted hs src)
  have hl2 := wout_length l src
  clear hown2 hk2 hob HX1 HK1 HO1 hs1 c0 c1 c2
  obtain ⟨c0, c1, c2⟩ := BoxD.facts HX2.out
  have he : dst.toList.isEmpty = false := some_toList hd.out
  have hpt := pos_le (wout l src) dst
  go_wp2_with fail
  refine (place_any fb v1 (wout l src) dst _ (IsX.own HO2.out) HS2.out (by omega)).mono ?_
  rintro e w3 ⟨rfl, hb3⟩
  have hs3 : w.heap.size < w3.heap.size := Nat.lt_of_lt_of_le hs2 hb3.size
  have HX3 := Lib.hid (HX2.out.below hb3 hs2)
  have HK3 := Lib.hid (HK2.out.trans (Kept.of_below (S := fun _ => False) hb3 (Nat.le_refl _)) (fun _ h => h.elim))
  have HO3 := Lib.hid (ownsRow_below HO2.out hb3 (Nat.le_refl _))
  clear hb3 HX2 HK2 HO2 hs2 c0 c1 c2
  obtain ⟨c0, c1, c2⟩ := BoxD.facts HX3.out
  rw [show (tfind (wout l src) dst).isSome = true from by rw [hg.out]; rfl]
  have hat := tfind_at HS2.out hg.out
  have hpl2 : pos (wout l src) dst < (wout l src).length := (List.getElem?_eq_some_iff.1 hat).1
  obtain ⟨g, hgo, hidx, hcells, hfree, hst⟩ := indexAt_own HO3.out 91 _ Tryz.underlying91 Tryz.sizeEnt (pos (wout l src) dst) hpl2
  have hc1 := hcells 1 (by decide)
  rw [row_get (ent_len fb) hat 1 (by decide)] at hc1
  have hc1' : w3.cell? ⟨g, pos (wout l src) dst * 2 + 1, none⟩ = some (.pointer (some ⟨fb g0, 0, none⟩)) := hc1
  have hf1 := hfree (pos (wout l src) dst * 2 + 1)
  have HST := Lib.hid (hst (pos (wout l src) dst * 2 + 1) (.pointer q))
  have HG := Lib.hid hgo
  have HAT := Lib.hid hat
  clear hcells hfree hst hgo hat hc1
  go_wp2
  go_ret
  refine Tabled.mk (v' := v1) ?_ (HK3.out.setCell (p := ⟨g, pos (wout l src) dst * 2 + 1, none⟩) (.inl ?_) (.pointer q)) (fun k hk => .inl (by rw [← (show v1.ownBlock = v.ownBlock from HOB.out)]; exact hk))
  · have h := HST.out
    rw [row_set (ent_len fb) HAT.out 1 (by decide) (.pointer q) (y := (dst, f)) (by rw [hq.out]; rfl), set_pos HS2.out hg.out] at h
    have hlen : (wth (wout l src) dst f).length = (wout l src).length := by rw [← set_pos HS2.out hg.out, List.length_set]
    rw [hlen]
    exact h
  · rw [← (show v1.ownBlock = v.ownBlock from HOB.out)]
    exact HG.out

set_option maxRecDepth 100000 in
set_option maxHeartbeats 4000000 in
theorem behind_1i (fb : Nat → Nat) (v : Value) (l : Tbl) (src dst : ByteArray) (q : Option Addr) (f : Nat) (w : World) (hv : w.ownsRow 0 164 2 v l.length (row (ent fb) l)) (hs : Sorted l) (hl : l.length ≤ 1048575) (f0 : Nat) (ha : Hid (tfind l src = some f0)) (hd : Hid (dst ≠ noName)) (hq : Hid (q = some ⟨fb f, 0, none⟩)) (hg : Hid (tfind (wout l src) dst = none)) :
    Calls Tryz.prog 110 #[v, .agg #[.string src, .string dst, .pointer q]] w (Tabled fb w v (wth (wout l src) dst f)) := by
  have hvlt := fun k hk => (hv.lt k hk).2
  have HX0 := Lib.hid (Blk.new w #[.string src, .string dst, .pointer q] 174)
  have HK0 := Lib.hid ((Kept.refl (fun k => v.ownBlock = some k) w).alloc (.cells #[.string src, .string dst, .pointer q] 174))
  have HO0 := Lib.hid (ownsRow_kept hv ((Kept.refl (fun _ => False) w).alloc (.cells #[.string src, .string dst, .pointer q] 174)) (fun _ _ h => h))
  have hB : ¬ v.ownBlock = some w.heap.size := fun e => by have := hvlt _ e; omega
  have hsz0 : (w.alloc (.cells #[.string src, .string dst, .pointer q] 174)).heap.size = w.heap.size + 1 := by simp
  have HSZ := Lib.hid hsz0
  have HVL := Lib.hid hvlt
  have HBN := Lib.hid hB
  have hpl := pos_le l src
  clear hsz0 hv hvlt hB
  go_enter Tryz.func110, Tryz.ntmps110
  go_wp2_with fail
  refine (place_any fb v l src _ (IsX.own HO0.out) hs (by omega)).mono ?_
  rintro e w1 ⟨rfl, hb1⟩
  have hs1 : w.heap.size < w1.heap.size := by have := hb1.size; rw [HSZ.out] at this; omega
  have HX1 := Lib.hid (HX0.out.below hb1 (by rw [HSZ.out]; omega))
  have HK1 := Lib.hid (HK0.out.trans (Kept.of_below (S := fun _ => False) hb1 (Nat.le_refl _)) (fun _ h => h.elim))
  have HO1 := Lib.hid (ownsRow_below HO0.out hb1 (Nat.le_refl _))
  clear hb1 HX0 HK0 HO0
  rw [show (tfind l src).isSome = true from by rw [ha.out]; rfl]
  obtain ⟨c0, c1, c2⟩ := BoxD.facts HX1.out
  go_wp2_with fail
  refine (tdel_any fb v l (pos l src) _ HO1.out (wout_some hs ha.out).2 (by omega)).mono ?_
  rintro e w2 ⟨v1, rfl, hown2, hk2, hob⟩
  rw [(wout_some hs ha.out).1] at hown2
  have hs2 : w.heap.size < w2.heap.size := Nat.lt_of_lt_of_le hs1 hk2.size
  have HX2 := Lib.hid (HX1.out.kept hk2 HBN.out)
  have HK2 := Lib.hid (HK1.out.trans hk2 (fun j hj _ => hj))
  have HO2 := Lib.hid hown2
  have HOB := Lib.hid hob
  have HS2 := Lib.hid (wout_sorted hs src)
  have hl2 := wout_length l src
  clear hown2 hk2 hob HX1 HK1 HO1 hs1 c0 c1 c2
  obtain ⟨c0, c1, c2⟩ := BoxD.facts HX2.out
  have he : dst.toList.isEmpty = false := some_toList hd.out
  have hpt := pos_le (wout l src) dst
  go_wp2_with fail
  refine (place_any fb v1 (wout l src) dst _ (IsX.own HO2.out) HS2.out (by omega)).mono ?_
  rintro e w3 ⟨rfl, hb3⟩
  have hs3 : w.heap.size < w3.heap.size := Nat.lt_of_lt_of_le hs2 hb3.size
  have HX3 := Lib.hid (HX2.out.below hb3 hs2)
  have HK3 := Lib.hid (HK2.out.trans (Kept.of_below (S := fun _ => False) hb3 (Nat.le_refl _)) (fun _ h => h.elim))
  have HO3 := Lib.hid (ownsRow_below HO2.out hb3 (Nat.le_refl _))
  clear hb3 HX2 HK2 HO2 hs2 c0 c1 c2
  obtain ⟨c0, c1, c2⟩ := BoxD.facts HX3.out
  rw [show (tfind (wout l src) dst).isSome = false from by rw [hg.out]; rfl]
  have HX4 := Lib.hid (Blk.new w3 #[.string dst, .pointer q] 164)
  have HK4 := Lib.hid (HK3.out.alloc (.cells #[.string dst, .pointer q] 164))
  have HO4 := Lib.hid (ownsRow_kept HO3.out ((Kept.refl (fun _ => False) w3).alloc (.cells #[.string dst, .pointer q] 164)) (fun _ _ h => h))
  have HB4 := Lib.hid (show v1.ownBlock ≠ some w3.heap.size from fun e => by have := (HO3.out.lt _ e).2; omega)
  go_wp2_with fail
  refine (tins_any fb v1 (wout l src) dst f w3.heap.size (pos (wout l src) dst) _ HO4.out hpt (by omega) HB4.out (by have h := HX4.out; unfold Blk at h; rw [h, hq.out])).mono ?_
  rintro e w5 ⟨v5, rfl, hown5, hk5, hl5⟩
  have hK5 : Kept (fun k => v.ownBlock = some k) w w5 := HK4.out.trans hk5 (fun j hj _ => by rw [← (show v1.ownBlock = v.ownBlock from HOB.out)]; exact hj)
  have hV5 : ∀ k, v5.ownBlock = some k → v.ownBlock = some k ∨ w.heap.size ≤ k := fun k hk => by
    rcases hl5 with h | h
    · exact .inl (by rw [← (show v1.ownBlock = v.ownBlock from HOB.out), ← h]; exact hk)
    · rw [h] at hk
      have : (w3.alloc (.cells #[.string dst, .pointer q] 164)).heap.size = k := by simpa using hk
      have h2 : (w3.alloc (.cells #[.string dst, .pointer q] 164)).heap.size = w3.heap.size + 1 := by simp
      exact .inr (by omega)
  have hO5 : w5.ownsRow 0 164 2 v5 (wth (wout l src) dst f).length (row (ent fb) (wth (wout l src) dst f)) := by
    rw [ins_pos hg.out] at hown5
    have hlen : (wth (wout l src) dst f).length = (wout l src).length + 1 := by rw [wth_length, wout_none hg.out]
    rw [hlen]
    exact hown5
  have HE := Lib.hid (Tabled.mk hO5 hK5 hV5)
  clear hown5 hk5 hl5 hK5 hV5 hO5 c0 c1 c2
  go_wp2
  go_ret
  exact HE.out

theorem behind_any (fb : Nat → Nat) (v : Value) (l : Tbl) (x : Dd) (q : Option Addr) (w : World) (hv : w.ownsRow 0 164 2 v l.length (row (ent fb) l)) (hs : Sorted l) (hl : l.length ≤ 1048575) (hq : x.dst ≠ noName → q = some ⟨fb x.file, 0, none⟩) :
    Calls Tryz.prog 110 #[v, .agg #[.string x.src, .string x.dst, .pointer q]] w (Tabled fb w v (turnT l x)) := by
  unfold turnT
  cases ha : tfind l x.src with
  | none =>
    rw [wout_none ha]
    by_cases hd : x.dst = noName
    · rw [if_pos hd]
      exact behind_0e fb v l x.src x.dst q 0 w hv hs hl (Lib.hid ha) (Lib.hid hd)
    · rw [if_neg hd]
      cases hg : tfind l x.dst with
      | none => exact behind_0i fb v l x.src x.dst q x.file w hv hs hl (Lib.hid ha) (Lib.hid hd) (Lib.hid (hq hd)) (Lib.hid hg)
      | some g0 => exact behind_0s fb v l x.src x.dst q x.file w hv hs hl (Lib.hid ha) (Lib.hid hd) (Lib.hid (hq hd)) g0 (Lib.hid hg)
  | some f0 =>
    by_cases hd : x.dst = noName
    · rw [if_pos hd]
      exact behind_1e fb v l x.src x.dst q 0 w hv hs hl f0 (Lib.hid ha) (Lib.hid hd)
    · rw [if_neg hd]
      cases hg : tfind (wout l x.src) x.dst with
      | none => exact behind_1i fb v l x.src x.dst q x.file w hv hs hl f0 (Lib.hid ha) (Lib.hid hd) (Lib.hid (hq hd)) (Lib.hid hg)
      | some g0 => exact behind_1s fb v l x.src x.dst q x.file w hv hs hl f0 (Lib.hid ha) (Lib.hid hd) (Lib.hid (hq hd)) g0 (Lib.hid hg)

end Go.Proofs.YtllbngopfganjaaGreatDoor
end

section
namespace Go.Proofs.YtllbngopfganjaaGreatDoor
open Go.RowKit Go.Cor

/-- A code as an error. -/
abbrev ercode (k : Nat) : Value := .iface 59 (.int .i64 (k : Int))
def cerr (k : Nat) : Value := if k = 0 then .nilIface else ercode k
theorem cerr_0 : cerr 0 = .nilIface := rfl
theorem cerr_pos {k : Nat} (h : k ≠ 0) : cerr k = ercode k := if_neg h

theorem Tryz.infoDeed : (Tryz.prog.info? 174).map (fun i => (i.zero, i.size, i.bytes)) = some (some (.agg #[.string ⟨#[]⟩, .string ⟨#[]⟩, .pointer none]), 3, 40) := by kernel_rfl
/-- A deed as cells. -/
def dptr (fb : Nat → Nat) (x : Dd) : Option Addr := if x.dst = noName then none else some ⟨fb x.file, 0, none⟩
def ddc (fb : Nat → Nat) (x : Dd) : List Value := [.string x.src, .string x.dst, .pointer (dptr fb x)]
/-- Where the pieces of a disk lie: its box, its tables, its deeds; of file number k its box and its bytes. -/
structure Lay where
  p : Nat
  now : Value
  las : Value
  dee : Value
  fb : Nat → Nat
  fv : Nat → Value
  left : Int
  cr : Nat
inductive Tg where
  | dsk | now | las | dee | box (k : Nat) | byt (k : Nat)
  deriving DecidableEq
def Lay.own (L : Lay) (n : Nat) : Tg → Option Nat
  | .dsk => some L.p
  | .now => L.now.ownBlock
  | .las => L.las.ownBlock
  | .dee => L.dee.ownBlock
  | .box k => if k < n then some (L.fb k) else none
  | .byt k => if k < n then (L.fv k).ownBlock else none
/-- No two pieces lie in one block. -/
def Apt (f : Tg → Option Nat) : Prop := ∀ t u b, f t = some b → f u = some b → t = u

/-- Tables, deeds, files. -/
structure Rest (w : World) (L : Lay) (d : Dsk) : Prop where
  now : w.ownsRow 0 164 2 L.now d.now.length (row (ent L.fb) d.now)
  las : w.ownsRow 0 164 2 L.las d.las.length (row (ent L.fb) d.las)
  dee : w.ownsRow 0 174 3 L.dee d.deeds.length (row (ddc L.fb) d.deeds)
  box : ∀ k, k < d.files.length → Blk w (L.fb k) #[.int .i64 (k : Int), L.fv k, .int .i64 ((fat d.files k).lasts : Int)] 172
  byt : ∀ k, k < d.files.length → w.ownsRow 0 5 1 (L.fv k) (fat d.files k).b.length (bvs (fat d.files k).b)
  apt : Apt (L.own d.files.length)
  plt : L.p < w.heap.size

theorem Rest.lt {w : World} {L : Lay} {d : Dsk} (h : Rest w L d) : ∀ t b, L.own d.files.length t = some b → b < w.heap.size := by
  intro t b hb
  cases t with
  | dsk => cases hb; exact h.plt
  | now => exact (h.now.lt b hb).2
  | las => exact (h.las.lt b hb).2
  | dee => exact (h.dee.lt b hb).2
  | box k =>
    simp only [Lay.own] at hb
    split at hb
    · cases hb; exact (h.box k (by assumption)).lt
    · cases hb
  | byt k =>
    simp only [Lay.own] at hb
    split at hb
    · exact ((h.byt k (by assumption)).lt b hb).2
    · cases hb
theorem own_box {L : Lay} {n k : Nat} (h : k < n) : L.own n (.box k) = some (L.fb k) := if_pos h
theorem own_byt {L : Lay} {n k : Nat} (h : k < n) : L.own n (.byt k) = (L.fv k).ownBlock := if_pos h

/-- Whatever touches none of its blocks leaves it. -/
theorem Rest.kept {S : Nat → Prop} {w w' : World} {L : Lay} {d : Dsk} (h : Rest w L d) (hk : Kept S w w') (hs : ∀ t b, L.own d.files.length t = some b → ¬ S b) : Rest w' L d where
  now := ownsRow_kept h.now hk (fun k e => hs .now k e)
  las := ownsRow_kept h.las hk (fun k e => hs .las k e)
  dee := ownsRow_kept h.dee hk (fun k e => hs .dee k e)
  box k hl := (h.box k hl).kept hk (hs (.box k) _ (own_box hl))
  byt k hl := ownsRow_kept (h.byt k hl) hk (fun j e => hs (.byt k) j ((own_byt hl).trans e))
  apt := h.apt
  plt := Nat.lt_of_lt_of_le h.plt hk.size
theorem Rest.below {w w' : World} {L : Lay} {d : Dsk} {B : Nat} (h : Rest w L d) (hb : Below B w w') (hB : w.heap.size ≤ B) : Rest w' L d := h.kept (Kept.of_below (S := fun _ => False) hb hB) (fun _ _ _ h => h)

/-- The number in the disk's box: of the deeds that are left. -/
def lft (L : Lay) (d : Dsk) : Int := match d.armed with | some n => (n : Int) | none => L.left
def dcells (L : Lay) (d : Dsk) : Array Value := #[.int .i64 (d.cap : Int), .int .i64 (L.cr : Int), L.now, L.las, L.dee, .bool d.armed.isSome, .int .i64 (lft L d)]
structure At (w : World) (L : Lay) (d : Dsk) : Prop where
  blk : Blk w L.p (dcells L d) 94
  rest : Rest w L d
theorem At.below {w w' : World} {L : Lay} {d : Dsk} {B : Nat} (h : At w L d) (hb : Below B w w') (hB : w.heap.size ≤ B) : At w' L d := ⟨h.blk.below hb (Nat.lt_of_lt_of_le h.blk.lt hB), h.rest.below hb hB⟩
theorem At.kept {S : Nat → Prop} {w w' : World} {L : Lay} {d : Dsk} (h : At w L d) (hk : Kept S w w') (hs : ∀ t b, L.own d.files.length t = some b → ¬ S b) : At w' L d := ⟨h.blk.kept hk (hs .dsk _ rfl), h.rest.kept hk hs⟩
theorem box_facts {w : World} {p : Nat} {a0 a1 a2 a3 a4 a5 a6 : Value} {T : TypeId} (h : Blk w p #[a0, a1, a2, a3, a4, a5, a6] T) :
    w.cell? ⟨p, 0, none⟩ = some a0 ∧ w.cell? ⟨p, 1, none⟩ = some a1 ∧ w.cell? ⟨p, 2, none⟩ = some a2 ∧ w.cell? ⟨p, 3, none⟩ = some a3 ∧ w.cell? ⟨p, 4, none⟩ = some a4 ∧ w.cell? ⟨p, 5, none⟩ = some a5 ∧ w.cell? ⟨p, 6, none⟩ = some a6 :=
  ⟨h.cell 0 rfl, h.cell 1 rfl, h.cell 2 rfl, h.cell 3 rfl, h.cell 4 rfl, h.cell 5 rfl, h.cell 6 rfl⟩

/-- Down, of any box. -/
theorem down_no (w : World) (p : Nat) (a0 a1 a2 a3 a4 a6 : Value) (T : TypeId) (h : Blk w p #[a0, a1, a2, a3, a4, .bool false, a6] T) :
    Calls Tryz.prog 31 #[.pointer (some ⟨p, 0, none⟩)] w fun e w' => e = .returned (.bool false) ∧ w = w' := by
  obtain ⟨_, _, _, _, _, c5, _⟩ := box_facts h
  clear h
  go_enter Tryz.func31, Tryz.ntmps31
  go_wp2
  go_ret
  exact ⟨rfl, rfl⟩
theorem down_yes (w : World) (p : Nat) (a0 a1 a2 a3 a4 : Value) (n : Nat) (T : TypeId) (h : Blk w p #[a0, a1, a2, a3, a4, .bool true, .int .i64 (n : Int)] T) :
    Calls Tryz.prog 31 #[.pointer (some ⟨p, 0, none⟩)] w fun e w' => e = .returned (.bool (n == 0)) ∧ w = w' := by
  obtain ⟨_, _, _, _, _, c5, c6⟩ := box_facts h
  obtain ⟨r, hr⟩ : ∃ r, (n == 0) = r := ⟨_, rfl⟩
  have hr' : ((n : Int) == 0) = r := by
    rw [← hr]
    cases n with
    | zero => rfl
    | succ n =>
      simp
      omega
  rw [hr]
  clear h hr
  go_enter Tryz.func31, Tryz.ntmps31
  go_wp2
  go_ret
  exact ⟨rfl, rfl⟩
def isDown (a : Option Nat) : Bool := a == some 0
theorem down_any (w : World) (L : Lay) (d : Dsk) (h : Blk w L.p (dcells L d) 94) :
    Calls Tryz.prog 31 #[.pointer (some ⟨L.p, 0, none⟩)] w fun e w' => e = .returned (.bool (isDown d.armed)) ∧ w = w' := by
  unfold dcells lft at h
  cases ha : d.armed with
  | none =>
    rw [ha] at h
    exact down_no w L.p _ _ _ _ _ _ _ h
  | some n =>
    rw [ha] at h
    exact down_yes w L.p _ _ _ _ _ n _ h
theorem up_any (w : World) (L : Lay) (d : Dsk) (h : Blk w L.p (dcells L d) 94) :
    Calls Tryz.prog 78 #[.pointer (some ⟨L.p, 0, none⟩)] w fun e w' => e = .returned (if isDown d.armed = true then ercode 12 else .nilIface) ∧ w = w' := by
  have H := Lib.hid h
  cases ha : isDown d.armed with
  | true =>
    go_enter Tryz.func78, Tryz.ntmps78
    go_wp2_with fail
    refine (down_any _ L d H.out).mono ?_
    rintro e w' ⟨rfl, rfl⟩
    rw [ha]
    go_wp2
    go_ret
    exact ⟨rfl, rfl⟩
  | false =>
    go_enter Tryz.func78, Tryz.ntmps78
    go_wp2_with fail
    refine (down_any _ L d H.out).mono ?_
    rintro e w' ⟨rfl, rfl⟩
    rw [ha]
    go_wp2
    go_ret
    exact ⟨rfl, rfl⟩
theorem up_nil (w : World) : Calls Tryz.prog 78 #[.pointer none] w fun e w' => e = .returned (ercode 15) ∧ w = w' := by
  go_enter Tryz.func78, Tryz.ntmps78
  go_wp2
  go_ret
  exact ⟨rfl, rfl⟩

/-- find, by its three ends. -/
theorem find_down (w : World) (L : Lay) (d : Dsk) (n : ByteArray) (h : At w L d) (hd : isDown d.armed = true) :
    Calls Tryz.prog 82 #[.pointer (some ⟨L.p, 0, none⟩), .string n] w fun e w' => e = .returned (.tuple #[.pointer none, ercode 12]) ∧ Below w.heap.size w w' := by
  have H := Lib.hid h.blk
  have HD := Lib.hid hd
  clear h hd
  go_enter Tryz.func82, Tryz.ntmps82
  go_wp2_with fail
  refine (up_any _ L d H.out).mono ?_
  rintro e w' ⟨rfl, rfl⟩
  rw [HD.out, if_pos rfl]
  go_wp2
  go_ret2
  exact ⟨rfl, Below.refl _ _⟩
theorem find_none (w : World) (L : Lay) (d : Dsk) (n : ByteArray) (h : At w L d) (hd : isDown d.armed = false) (hs : Sorted d.now) (hl : d.now.length ≤ 1048576) (hf : tfind d.now n = none) :
    Calls Tryz.prog 82 #[.pointer (some ⟨L.p, 0, none⟩), .string n] w fun e w' => e = .returned (.tuple #[.pointer none, ercode 6]) ∧ Below w.heap.size w w' := by
  have H := Lib.hid h.blk
  have HR := Lib.hid h.rest.now
  have HD := Lib.hid hd
  have HF := Lib.hid hf
  obtain ⟨_, _, c2, _, _, _, _⟩ := box_facts h.blk
  clear h hd hf
  go_enter Tryz.func82, Tryz.ntmps82
  go_wp2_with fail
  refine (up_any _ L d H.out).mono ?_
  rintro e w' ⟨rfl, rfl⟩
  rw [HD.out, if_neg (by decide)]
  go_wp2_with fail
  refine (place_any L.fb L.now d.now n _ (IsX.own HR.out) hs hl).mono ?_
  rintro e w1 ⟨rfl, hb⟩
  rw [show (tfind d.now n).isSome = false from by rw [HF.out]; rfl]
  have HB := Lib.hid hb
  clear hb c2
  go_wp2
  go_ret2
  exact ⟨rfl, HB.out⟩
theorem find_some (w : World) (L : Lay) (d : Dsk) (n : ByteArray) (k : Nat) (h : At w L d) (hd : isDown d.armed = false) (hs : Sorted d.now) (hl : d.now.length ≤ 1048576) (hf : tfind d.now n = some k) :
    Calls Tryz.prog 82 #[.pointer (some ⟨L.p, 0, none⟩), .string n] w fun e w' => e = .returned (.tuple #[.pointer (some ⟨L.fb k, 0, none⟩), .nilIface]) ∧ Below w.heap.size w w' := by
  have H := Lib.hid h.blk
  have HR := Lib.hid h.rest.now
  have HD := Lib.hid hd
  have HF := Lib.hid hf
  have HL := Lib.hid h.rest.plt
  obtain ⟨_, _, c2, _, _, _, _⟩ := box_facts h.blk
  clear h hd hf
  go_enter Tryz.func82, Tryz.ntmps82
  go_wp2_with fail
  refine (up_any _ L d H.out).mono ?_
  rintro e w' ⟨rfl, rfl⟩
  rw [HD.out, if_neg (by decide)]
  go_wp2_with fail
  refine (place_any L.fb L.now d.now n _ (IsX.own HR.out) hs hl).mono ?_
  rintro e w1 ⟨rfl, hb⟩
  rw [show (tfind d.now n).isSome = true from by rw [HF.out]; rfl]
  have HB := Lib.hid hb
  clear hb c2
  obtain ⟨_, _, c2, _, _, _, _⟩ := box_facts (H.out.below HB.out HL.out)
  obtain ⟨b, o, hidx, hob, k0, k1⟩ := indexAt_T (IsX.own (ownsRow_below HR.out HB.out (Nat.le_refl _))) 91 Tryz.underlying91 (tfind_at hs HF.out)
  go_wp2
  go_ret2
  exact ⟨rfl, HB.out⟩

end Go.Proofs.YtllbngopfganjaaGreatDoor
end

section
namespace Go.Proofs.YtllbngopfganjaaGreatDoor
open Go.RowKit Go.Cor

theorem isDown_false {a : Option Nat} (h : isDown a = false) : a ≠ some 0 := by
  rintro rfl
  cases h
theorem isDown_true {a : Option Nat} (h : isDown a = true) : a = some 0 := by
  simpa [isDown] using h

theorem done_no (w : World) (p : Nat) (a0 a1 a2 a3 a4 a6 : Value) (T : TypeId) (h : Blk w p #[a0, a1, a2, a3, a4, .bool false, a6] T) :
    Calls Tryz.prog 84 #[.pointer (some ⟨p, 0, none⟩)] w fun e w' => e = .returned (.tuple #[]) ∧ w = w' := by
  obtain ⟨_, _, _, _, _, c5, _⟩ := box_facts h
  clear h
  go_enter Tryz.func84, Tryz.ntmps84
  go_wp2
  go_end0
  exact ⟨rfl, rfl⟩
theorem done_yes (w : World) (p : Nat) (a0 a1 a2 a3 a4 : Value) (n : Nat) (T : TypeId) (hn : n < 9223372036854775807) (h : Blk w p #[a0, a1, a2, a3, a4, .bool true, .int .i64 ((n + 1 : Nat) : Int)] T) :
    Calls Tryz.prog 84 #[.pointer (some ⟨p, 0, none⟩)] w fun e w' => e = .returned (.tuple #[]) ∧ w' = w.setCell ⟨p, 6, none⟩ (.int .i64 (n : Int)) := by
  obtain ⟨_, _, _, _, _, c5, c6⟩ := box_facts h
  have f6 := h.free 6
  have e1 : ((n + 1 : Nat) : Int) - 1 = (n : Int) := by omega
  rw [show ((n + 1 : Nat) : Int) = (n : Int) + 1 from rfl] at c6 e1
  clear h
  go_enter Tryz.func84, Tryz.ntmps84
  go_wp2
  go_end0
  exact ⟨rfl, rfl⟩
theorem done_any (w : World) (L : Lay) (d : Dsk) (h : At w L d) (hd : isDown d.armed = false) (ha : ∀ n, d.armed = some n → n < 9223372036854775808) :
    Calls Tryz.prog 84 #[.pointer (some ⟨L.p, 0, none⟩)] w fun e w' => e = .returned (.tuple #[]) ∧ At w' L d.done ∧ Kept (fun k => some L.p = some k) w w' := by
  have hb := h.blk
  unfold dcells lft at hb
  cases he : d.armed with
  | none =>
    rw [he] at hb
    refine (done_no w L.p _ _ _ _ _ _ _ hb).mono ?_
    rintro e w' ⟨rfl, rfl⟩
    have hd' : d.done = d := by unfold Dsk.done; rw [he]; cases d; simp_all
    rw [hd']
    exact ⟨rfl, h, Kept.refl _ _⟩
  | some n =>
    rw [he] at hb
    cases n with
    | zero => exact absurd he (isDown_false hd)
    | succ n =>
      refine (done_yes w L.p _ _ _ _ _ n _ (by have := ha _ he; omega) hb).mono ?_
      rintro e w' ⟨rfl, rfl⟩
      have hk : Kept (fun k => some L.p = some k) w (w.setCell ⟨L.p, 6, none⟩ (.int .i64 (n : Int))) := (Kept.refl (fun k => some L.p = some k) w).setCell (p := ⟨L.p, 6, none⟩) (.inl rfl) _
      refine ⟨rfl, ⟨?_, ?_⟩, hk⟩
      · have := hb.set 6 (.int .i64 (n : Int))
        unfold dcells lft Dsk.done
        rw [he]
        exact this
      · have hr := h.rest
        exact ⟨ownsRow_kept hr.now hk (fun k e e2 => by cases hr.apt .now .dsk k e e2), ownsRow_kept hr.las hk (fun k e e2 => by cases hr.apt .las .dsk k e e2), ownsRow_kept hr.dee hk (fun k e e2 => by cases hr.apt .dee .dsk k e e2),
          fun k hl => (hr.box k hl).kept hk (fun e2 => by cases hr.apt (.box k) .dsk _ (own_box hl) e2), fun k hl => ownsRow_kept (hr.byt k hl) hk (fun j e e2 => by cases hr.apt (.byt k) .dsk j ((own_byt hl).trans e) e2), hr.apt, Nat.lt_of_lt_of_le hr.plt hk.size⟩

theorem lastNames_any (w : World) (p : Nat) (a0 a1 a3 a4 a5 a6 now : Value) (l : Tbl) (fb : Nat → Nat) (hB : Blk w p #[a0, a1, now, a3, a4, a5, a6] 94) (hn : w.ownsRow 0 164 2 now l.length (row (ent fb) l)) (hl : l.length ≤ 1048576) :
    Calls Tryz.prog 87 #[.pointer (some ⟨p, 0, none⟩)] w fun e w' => e = .returned (.tuple #[]) ∧
      ∃ v', Blk w' p #[a0, a1, now, v', .slice none 0 0, a5, a6] 94 ∧ w'.ownsRow w.heap.size 164 2 v' l.length (row (ent fb) l) ∧ Kept (fun k => some p = some k) w w' := by
  obtain ⟨_, _, c2, c3, c4, _, _⟩ := box_facts hB
  have HB := Lib.hid hB
  have hp := hB.lt
  have HN := Lib.hid (IsX.own hn)
  clear hB hn
  go_enter Tryz.func87, Tryz.ntmps87
  go_wp2_with fail
  refine (tclone_any fb now l _ HN.out hl).mono ?_
  rintro e w1 ⟨v', rfl, hown, hb⟩
  obtain ⟨x, c, rfl, hc1, hc2⟩ := ownsRow_slice hown
  have HB1 := Lib.hid (HB.out.below hb hp)
  have HK1 := Lib.hid (Kept.of_below (S := fun k => some p = some k) hb (Nat.le_refl _))
  have HO := Lib.hid hown
  clear c2 c3 c4
  obtain ⟨_, _, c2, c3, c4, _, _⟩ := box_facts HB1.out
  have f3 := HB1.out.free 3
  have f4 := HB1.out.free 4
  clear hb hown
  go_wp2
  go_end0
  have h1 := (HB1.out.set 3 (.slice x l.length c)).set 4 (.slice none 0 0)
  have hk := (HK1.out.setCell (p := ⟨p, 3, none⟩) (.inl rfl) (.slice x l.length c)).setCell (p := ⟨p, 4, none⟩) (.inl rfl) (.slice none 0 0)
  refine ⟨rfl, _, h1, ?_, hk⟩
  refine ownsRow_kept (S := fun k => some p = some k) HO.out (((Kept.refl (fun k => some p = some k) w1).setCell (p := ⟨p, 3, none⟩) (.inl rfl) (.slice x l.length c)).setCell (p := ⟨p, 4, none⟩) (.inl rfl) (.slice none 0 0)) (fun k e e2 => ?_)
  have := (HO.out.lt k e).1
  cases e2
  omega

end Go.Proofs.YtllbngopfganjaaGreatDoor
end
