/- Tables of names: an entry laid in: by contracts. -/
import Derived.Test.YtnofabeajcdddaaTabw
namespace Go.Proofs.Ytnofabeajcdddaa
open Go.RowKit Go.Cor

theorem srcOf {w : World} {size : Nat} {ad : Addr} {n c : Nat} {cs : List Value} (h : IsX w size (.slice (some ad) n c) n cs) : ∀ j u, cs[j]? = some u → w.cell? (ad.add j) = some u := by
  intro j u hj
  obtain ⟨a', c', e', k1, k2, k3, k4, k5⟩ := h
  cases e'
  have hjl := (List.getElem?_eq_some_iff.1 hj).1
  rcases k5 with k5 | ⟨b, off, e1, hc⟩
  · subst k5
    rw [Nat.zero_mul] at k3
    omega
  · cases e1
    rw [add_lit]
    exact (hc j (by rw [← k3]; exact hjl)).trans hj
theorem entX {w : World} {a : Nat} {fb : Nat → Nat} {n : ByteArray} {f : Nat} {T : TypeId} (ha : w.heap[a]? = some (.cells #[.string n, .pointer (some ⟨fb f, 0, none⟩)] T (0, 0))) : IsX w 2 (.slice (some ⟨a, 0, none⟩) 1 1) 1 (ent fb (n, f)) := by
  refine ⟨_, _, rfl, Nat.le_refl _, by decide, rfl, by simp, .inr ⟨a, 0, rfl, fun j hj => ?_⟩⟩
  rw [cell_of_row w a _ _ _ _ ha, Nat.zero_add]
  match j, hj with
  | 0, _ => rfl
  | 1, _ => rfl
theorem ent_mem {fb : Nat → Nat} {e : ByteArray × Nat} : ∀ v ∈ ent fb e, v.oneCell' = true := by
  intro v hv
  simp only [ent, List.mem_cons, List.not_mem_nil, or_false] at hv
  rcases hv with rfl | rfl <;> rfl
theorem append_types (ty : TypeId) (v : Value) (x : Option Addr) (m c : Nat) (w : World) : (Builtin.append_ #[79, 78] ty #[v, .slice x m c]).run Try.prog w = (Builtin.append_ #[79, 79] ty #[v, .slice x m c]).run Try.prog w := by
  have h1 := Try.underlying79
  have h2 := Try.underlying78
  cases v <;> simp [Builtin.append_, run_underlying h1, run_underlying h2]

set_option maxRecDepth 100000 in
set_option maxHeartbeats 1000000 in
/-- At the end. -/
theorem tins_end (fb : Nat → Nat) (v : Value) (l : Tbl) (n : ByteArray) (f a : Nat) (w : World) (hv : w.ownsRow 0 104 2 v l.length (row (ent fb) l)) (hl : l.length ≤ 1048576)
    (ha : w.heap[a]? = some (.cells #[.string n, .pointer (some ⟨fb f, 0, none⟩)] 104 (0, 0))) :
    Calls Try.prog 62 #[v, .int .i64 (l.length : Int), .slice (some ⟨a, 0, none⟩) 1 1] w fun e w' =>
      ∃ v', e = .returned v' ∧ w'.ownsRow 0 104 2 v' (l.length + 1) (row (ent fb) (l ++ [(n, f)])) ∧ Kept (fun k => v.ownBlock = some k) w w' ∧ (v'.ownBlock = v.ownBlock ∨ v'.ownBlock = some w.heap.size) := by
  obtain ⟨i0, hinf, hz0, hz1, hz2⟩ := info_parts Try.infoEnt
  have hT := Try.underlying79
  have hX := IsX.own hv
  have hS := entX ha
  obtain ⟨x, cap, rfl, hlc, hcm⟩ := hX.slice
  obtain ⟨v', w1, hap, hown1, hgr1, hat1⟩ := run_append_X (P := Try.prog) w 0 79 _ 79 i0 _ 2 24 hT hinf hz0 hz1 hz2 rfl (by decide) _ _ _ hv _ 1 _ hS ent_mem (by unfold maxLen; omega) (by omega) (Nat.zero_le _)
  obtain ⟨N, hN⟩ : ∃ N, l.length = N := ⟨_, rfl⟩
  rw [hN] at hX hl hlc hv hap hown1 hgr1 hat1 ⊢
  have hs1 := slice_l_X (P := Try.prog) hX 79 _ hT Try.sizeEnt N (by omega)
  have hlen := fun W => len_X (P := Try.prog) hX 79 3 _ hT W
  rw [← append_types] at hap
  have HAP := Lib.hid hap
  have HO := Lib.hid (show w1.ownsRow 0 104 2 v' (N + 1) (row (ent fb) (l ++ [(n, f)])) from by rw [row_append, row_one]; exact hown1)
  have HK := Lib.hid (show Kept (fun k => (Value.slice x N cap).ownBlock = some k) w w1 from (Kept.refl _ w).grown hgr1 (fun k hk => .inl hk))
  have HA := Lib.hid hat1
  clear hap hown1 hgr1 hat1 hv hX hN
  generalize sliced x N N cap 2 = VI at *
  generalize Value.slice x N cap = V at *
  go_enter Try.func62, Try.ntmps62
  go_wp2_with (at_builtin; refine Lib.wpList_append_run _ rfl _ _ 79 78 rfl _ _ rfl rfl _ _ HAP.out ?_)
  go_ret
  exact ⟨_, rfl, HO.out, HK.out, HA.out⟩

set_option maxRecDepth 100000 in
set_option maxHeartbeats 2000000 in
/-- In the midst, where there is no room. -/
theorem tins_grow (fb : Nat → Nat) (l : Tbl) (n : ByteArray) (f a g i N cap : Nat) (w : World) (hv : w.ownsRow 0 104 2 (.slice (some ⟨g, 0, none⟩) N cap) N (row (ent fb) l)) (hN : l.length = N) (hi : i < N) (hl : N ≤ 1048576) (hroom : cap < N + 1) (hcm : cap ≤ maxLen) (hga : g ≠ a)
    (ha : w.heap[a]? = some (.cells #[.string n, .pointer (some ⟨fb f, 0, none⟩)] 104 (0, 0))) :
    Calls Try.prog 62 #[.slice (some ⟨g, 0, none⟩) N cap, .int .i64 (i : Int), .slice (some ⟨a, 0, none⟩) 1 1] w fun e w' =>
      ∃ v', e = .returned v' ∧ w'.ownsRow 0 104 2 v' (N + 1) (row (ent fb) (l.take i ++ (n, f) :: l.drop i)) ∧ Kept (fun k => some g = some k) w w' ∧ (v'.ownBlock = some g ∨ v'.ownBlock = some w.heap.size) := by
  obtain ⟨i0, hinf, hz0, hz1, hz2⟩ := info_parts Try.infoEnt
  have hT := Try.underlying79
  have hX := IsX.own hv
  have hS := entX ha
  have hlr := length_row (ent_len fb) l
  rw [hN] at hlr
  have hcap : N = cap := by
    obtain ⟨x', c', e', h1, _⟩ := hX.slice
    cases e'
    omega
  subst hcap
  have halt : a < w.heap.size := (Array.getElem?_eq_some_iff.1 ha).1
  have hglt := (hv.lt g rfl).2
  have hs0 := slice_h_X (P := Try.prog) 2 (some ⟨g, 0, none⟩) N N 79 _ hT Try.sizeEnt i (by omega)
  have hsI := slice_l_X (P := Try.prog) hX 79 _ hT Try.sizeEnt i (by omega)
  have hXI := hX.piece (lo := i) (hi := N) (by omega) (Nat.le_refl _)
  rw [sliced_at _ _ _ _ _ _ (by omega), Nat.zero_add] at hsI hXI
  have hB : ((row (ent fb) l).drop (i * 2)).take ((N - i) * 2) = (row (ent fb) l).drop (i * 2) := List.take_of_length_le (by rw [List.length_drop, hlr]; omega)
  rw [hB] at hXI
  have hlen := fun W => len_X (P := Try.prog) hX 79 3 _ hT W
  have hown0 := ownsRow_take hv (Nat.le_of_lt hi)
  have hl0 : ((row (ent fb) l).take (i * 2)).length = i * 2 := by rw [List.length_take, hlr]; omega
  have hlB : ((row (ent fb) l).drop (i * 2)).length = (N - i) * 2 := by rw [List.length_drop, hlr]; omega
  have hold : (Builtin.firstCells i0.size i (.slice (some ⟨g, 0, none⟩) i N)).run Try.prog w.drew = .ok ((row (ent fb) l).take (i * 2)).toArray w.drew :=
    run_firstCells_some (P := Try.prog) w.drew i0.size i ⟨g, 0, none⟩ i N _ (by rw [hz1]; exact hl0) (fun j u hj => hown0.cells (g := g) rfl j u hj)
  obtain ⟨k, hk⟩ : ∃ k, N + 1 - i = k := ⟨_, rfl⟩
  have hap := Lib.run_append_grow_zeros (P := Try.prog) w 79 3 79 _ i0 _ .i64 .i64 hT Try.underlying3 hinf hz0 (some ⟨g, 0, none⟩) i N _ hold k (by omega) (by omega) (by omega) (by omega) (by rw [hz2]; omega) (growslice_fits (by omega) (by rw [hz2]; omega))
  have hik : i + k = N + 1 := by omega
  rw [hik] at hap
  obtain ⟨c2, hc2⟩ : ∃ c2, grownCap w (N + 1) N 104 = c2 := ⟨_, rfl⟩
  have hc2ge := grownCap_ge w (N + 1) N 104
  have hc2le := grownCap_le_maxLen w (N + 1) N 104 (by unfold maxLen; omega)
  rw [hc2] at hap hc2ge hc2le
  obtain ⟨L0, hL0⟩ : ∃ L0, ((row (ent fb) l).take (i * 2)).toArray ++ Builtin.zeroCells (Value.agg #[.string ⟨#[]⟩, .pointer none]).cells k ++ Builtin.zeroCells (Value.agg #[.string ⟨#[]⟩, .pointer none]).cells (c2 - (N + 1)) = L0 := ⟨_, rfl⟩
  rw [hL0] at hap
  have hzs : (Value.agg #[.string ⟨#[]⟩, .pointer none]).cells.size = 2 := by kernel_rfl
  have hL0s : L0.size = c2 * 2 := by
    rw [← hL0]
    simp only [Array.size_append, List.size_toArray, size_zeroCells, hzs, hl0]
    omega
  have hL0l : L0.toList.length = c2 * 2 := by rw [Array.length_toList]; exact hL0s
  have hL0t : L0.toList.take (i * 2) = (row (ent fb) l).take (i * 2) := by
    rw [← hL0]
    simp only [Array.toList_append, List.append_assoc]
    exact List.take_left' hl0
  obtain ⟨w1, hw1⟩ : ∃ w1, w.drew.alloc (.cells L0 104) = w1 := ⟨_, rfl⟩
  have hg1 : w1.heap[w.heap.size]? = some (.cells L0 104 (0, 0)) := by rw [← hw1]; exact heap_alloc_new w.drew _
  have hK1 : Kept (fun k => some g = some k) w w1 := by rw [← hw1]; exact ((Kept.refl _ w).drew).alloc _
  rw [hw1] at hap
  -- the entry
  have hsD1 := slice_l_C (P := Try.prog) 2 (some ⟨w.heap.size, 0, none⟩) (N + 1) c2 79 _ hT Try.sizeEnt i (by omega)
  rw [sliced_at _ _ _ _ _ _ (by omega), Nat.zero_add] at hsD1
  have hcp1 := fun ty => run_copy_X (P := Try.prog) w1 79 78 ty _ 2 w.heap.size (i * 2) (N + 1 - i) (c2 - i) ⟨a, 0, none⟩ 1 1 1 L0 _ (ent fb (n, f)) hT Try.sizeEnt hg1 (by simp only [Nat.min_def]; split <;> omega) rfl
      (srcOf (hS.kept hK1 (fun j hj he => by
        have e1 : a = j := by simpa [Value.ownBlock] using hj.2
        have e2 : g = j := by simpa using he
        omega))) (by rw [hL0s]; show i * 2 + 2 ≤ _; omega) ent_mem
  obtain ⟨L1, hL1⟩ : ∃ L1, (L0.toList.take (i * 2) ++ ent fb (n, f) ++ L0.toList.drop (i * 2 + (ent fb (n, f)).length)) = L1 := ⟨_, rfl⟩
  rw [hL1] at hcp1
  obtain ⟨w2, hw2⟩ : ∃ w2, w1.setRow w.heap.size L1.toArray = w2 := ⟨_, rfl⟩
  have hg2 : w2.heap[w.heap.size]? = some (.cells L1.toArray 104 (0, 0)) := by rw [← hw2]; exact setRow_heap w1 _ L0 _ _ _ hg1
  have hK2 : Kept (fun k => some g = some k) w w2 := by rw [← hw2]; exact hK1.setRow (.inr (Nat.le_refl _)) _
  rw [hw2] at hcp1
  have hL1s : L1.length = c2 * 2 := by
    rw [← hL1]
    simp only [List.length_append, List.length_take, List.length_drop, Array.length_toList, hL0s]
    show min (i * 2) (c2 * 2) + 2 + (c2 * 2 - (i * 2 + 2)) = _
    omega
  -- what stood behind
  have hsD2 := slice_l_C (P := Try.prog) 2 (some ⟨w.heap.size, 0, none⟩) (N + 1) c2 79 _ hT Try.sizeEnt (i + 1) (by omega)
  rw [sliced_at _ _ _ _ _ _ (by omega), Nat.zero_add, show N + 1 - (i + 1) = N - i from by omega] at hsD2
  have hXI2 : IsX w2.drew 2 (.slice (some ⟨g, i * 2, none⟩) (N - i) (N - i)) (N - i) ((row (ent fb) l).drop (i * 2)) := by
    refine hXI.kept (S := fun k => w.heap.size ≤ k) ?_ (fun j hj he => ?_)
    · rw [← hw2, ← hw1]
      exact ((((Kept.refl _ w).drew).alloc _).setRow (.inl (Nat.le_refl _)) _).drew
    · have e1 : g = j := by simpa [Value.ownBlock] using hj.2
      omega
  have hcp2 := fun ty => run_copy_X (P := Try.prog) w2.drew 79 79 ty _ 2 w.heap.size ((i + 1) * 2) (N - i) (c2 - (i + 1)) ⟨g, i * 2, none⟩ (N - i) (N - i) (N - i) L1.toArray _ ((row (ent fb) l).drop (i * 2)) hT Try.sizeEnt hg2 (by simp only [Nat.min_def]; split <;> omega) hlB
      (srcOf hXI2) (by rw [List.size_toArray, hL1s, hlB]; omega) (fun u hu => ent_one fb l u (List.mem_of_mem_drop hu))
  obtain ⟨L2, hL2⟩ : ∃ L2, (L1.toArray.toList.take ((i + 1) * 2) ++ (row (ent fb) l).drop (i * 2) ++ L1.toArray.toList.drop ((i + 1) * 2 + ((row (ent fb) l).drop (i * 2)).length)) = L2 := ⟨_, rfl⟩
  rw [hL2] at hcp2
  obtain ⟨w3, hw3⟩ : ∃ w3, w2.drew.setRow w.heap.size L2.toArray = w3 := ⟨_, rfl⟩
  have hg3 : w3.heap[w.heap.size]? = some (.cells L2.toArray 104 (0, 0)) := by rw [← hw3]; exact setRow_heap w2.drew _ L1.toArray _ _ _ hg2
  have hK3 : Kept (fun k => some g = some k) w w3 := by rw [← hw3]; exact (hK2.drew).setRow (.inr (Nat.le_refl _)) _
  rw [hw3] at hcp2
  have hlist := ins_list2 L0.toList ((row (ent fb) l).take (i * 2)) (ent fb (n, f)) ((row (ent fb) l).drop (i * 2)) (i * 2) 2 hL0t rfl (by rw [hL0l, hlB]; omega)
  rw [show i * 2 + 2 = i * 2 + (ent fb (n, f)).length from rfl, hL1, show i * 2 + (ent fb (n, f)).length = (i + 1) * 2 from by show i * 2 + 2 = _; omega] at hlist
  rw [show L1 = L1.toArray.toList from rfl, hL2, hlB, show (i + 1) * 2 + (N - i) * 2 = (N + 1) * 2 from by omega] at hlist
  have hO3 : w3.ownsRow 0 104 2 (.slice (some ⟨w.heap.size, 0, none⟩) (N + 1) c2) (N + 1) (row (ent fb) (l.take i ++ (n, f) :: l.drop i)) := by
    have e : row (ent fb) (l.take i ++ (n, f) :: l.drop i) = (row (ent fb) l).take (i * 2) ++ ent fb (n, f) ++ (row (ent fb) l).drop (i * 2) := by
      rw [row_append, row_cons, row_take (ent_len fb), row_drop (ent_len fb), List.append_assoc]
    rw [e]
    refine ⟨by simp only [List.length_append, hl0, hlB]; show i * 2 + 2 + _ = _; omega, .inr ⟨w.heap.size, c2, _, rfl, Nat.zero_le _, hg3, hc2ge, hc2le, ?_, ?_⟩⟩
    · rw [List.size_toArray, hlist.2, hL0l]
    · rw [List.toList_toArray]
      exact hlist.1
  have HO := Lib.hid hO3
  have HK := Lib.hid hK3
  have HAP := Lib.hid hap
  have HC1 := Lib.hid hcp1
  have HC2 := Lib.hid hcp2
  have hne : ((i : Int) == (N : Int)) = false := by simp; omega
  have hgt : ¬ ((N : Int) + 1 ≤ (N : Int)) := by omega
  have hkk : (N : Int) + 1 - (i : Int) = (k : Int) := by omega
  have hS1 := fun W => len_X (P := Try.prog) hS 78 3 _ Try.underlying78 W
  have hcap := fun (W : World) (ty : TypeId) => run_cap_slice (P := Try.prog) W 79 ty (some ⟨g, 0, none⟩) N N (by simp [Program.elem, hT])
  rw [show ((i + 1 : Nat) : Int) = (i : Int) + 1 from rfl] at hsD2
  have HB := Lib.hid (show Value.ownBlock (.slice (some ⟨w.heap.size, 0, none⟩) (N + 1) c2) = some w.heap.size from rfl)
  have hwr : IntKind.i64.wrap ((i : Int) + 1) = (i : Int) + 1 := IntWalk.i64_in _ (by omega)
  refine (walk_grow _ _ _ _ _ _ _ i N k w w1 w2 w3 hi hl hkk hne hgt hlen hcap hS1 hsI hs0 hsD1 hsD2 HAP _ _ HC1 HC2 hwr).mono fun e w' => ?_
  rintro ⟨rfl, rfl⟩
  exact ⟨_, rfl, HO.out, HK.out, .inr HB.out⟩

set_option maxRecDepth 100000 in
set_option maxHeartbeats 2000000 in
/-- In the midst, where there is room. -/
theorem tins_room (fb : Nat → Nat) (l : Tbl) (n : ByteArray) (f a g i N cap : Nat) (w : World) (hv : w.ownsRow 0 104 2 (.slice (some ⟨g, 0, none⟩) N cap) N (row (ent fb) l)) (hN : l.length = N) (hi : i < N) (hl : N ≤ 1048576) (hroom : N + 1 ≤ cap) (hcm : cap ≤ maxLen) (hga : g ≠ a)
    (ha : w.heap[a]? = some (.cells #[.string n, .pointer (some ⟨fb f, 0, none⟩)] 104 (0, 0))) :
    Calls Try.prog 62 #[.slice (some ⟨g, 0, none⟩) N cap, .int .i64 (i : Int), .slice (some ⟨a, 0, none⟩) 1 1] w fun e w' =>
      ∃ v', e = .returned v' ∧ w'.ownsRow 0 104 2 v' (N + 1) (row (ent fb) (l.take i ++ (n, f) :: l.drop i)) ∧ Kept (fun k => some g = some k) w w' ∧ (v'.ownBlock = some g ∨ v'.ownBlock = some w.heap.size) := by
  obtain ⟨i0, hinf, hz0, hz1, hz2⟩ := info_parts Try.infoEnt
  have hT := Try.underlying79
  have hX := IsX.own hv
  have hS := entX ha
  have hlr := length_row (ent_len fb) l
  rw [hN] at hlr
  rcases hv.2 with ⟨hbad, _⟩ | ⟨g', cap', cur, he, _, hg, _, _, hcs, htake⟩
  · cases hbad
  cases he
  have halt : a < w.heap.size := (Array.getElem?_eq_some_iff.1 ha).1
  have hsI := slice_l_X (P := Try.prog) hX 79 _ hT Try.sizeEnt i (by omega)
  rw [sliced_at _ _ _ _ _ _ (by omega), Nat.zero_add] at hsI
  have hlB : ((row (ent fb) l).drop (i * 2)).length = (N - i) * 2 := by rw [List.length_drop, hlr]; omega
  have hlen := fun W => len_X (P := Try.prog) hX 79 3 _ hT W
  have hs3 := slice_h_X (P := Try.prog) 2 (some ⟨g, 0, none⟩) N cap 79 _ hT Try.sizeEnt (N + 1) hroom
  have hsD := slice_l_C (P := Try.prog) 2 (some ⟨g, 0, none⟩) (N + 1) cap 79 _ hT Try.sizeEnt (i + 1) (by omega)
  rw [sliced_at _ _ _ _ _ _ (by omega), Nat.zero_add, show N + 1 - (i + 1) = N - i from by omega] at hsD
  have hsS := slice_l_C (P := Try.prog) 2 (some ⟨g, 0, none⟩) (N + 1) cap 79 _ hT Try.sizeEnt i (by omega)
  rw [sliced_at _ _ _ _ _ _ (by omega), Nat.zero_add] at hsS
  have hsz : ∀ W, (sizeOf 104).run Try.prog W = .ok 2 W := fun W => by simp [sizeOf, typeInfo, hinf, hz1]
  have hov : (callFunc 67 #[.slice (some ⟨a, 0, none⟩) 1 1, .slice (some ⟨g, (i + 1) * 2, none⟩) (N - i) (cap - (i + 1))]).run Try.prog w = .ok (.value (.bool false)) w := by
    rw [run_callFunc_extern Try.func67 (by kernel_rfl) (by kernel_rfl) (by kernel_rfl) (e := Extern.SlicesOverlaps.overlaps #[78, 78] #[4]) (by kernel_rfl),
      Lib.run_overlaps_apart w 78 4 104 Try.underlying78 2 hsz ⟨a, 0, none⟩ ⟨g, (i + 1) * 2, none⟩ 1 1 (N - i) (cap - (i + 1)) (fun e => hga e.symm) 104 104 2 cur.size (by simp [World.shape?, ha]) (by simp [World.shape?, hg]) (by rw [hcs]; omega) (frozen_of_row w a 0 _ _ ha) (frozen_of_row w a 2 _ _ ha)]
    rfl
  have hL0l : cur.toList.length = cap * 2 := by rw [Array.length_toList]; exact hcs
  have hL0t : cur.toList.take (i * 2) = (row (ent fb) l).take (i * 2) := by
    rw [← htake, List.take_take, Nat.min_eq_left (by omega)]
  have hcp1 := fun ty => run_copy_X (P := Try.prog) w.drew 79 79 ty _ 2 g ((i + 1) * 2) (N - i) (cap - (i + 1)) ⟨g, i * 2, none⟩ (N + 1 - i) (cap - i) (N - i) cur _ ((row (ent fb) l).drop (i * 2)) hT Try.sizeEnt hg (by simp only [Nat.min_def]; split <;> omega) hlB
      (fun j u hj => by
        rw [add_lit]
        have hjl := (List.getElem?_eq_some_iff.1 hj).1
        rw [List.getElem?_drop] at hj
        rw [hlB] at hjl
        show w.cell? _ = _
        rw [hv.cellAt (i * 2 + j) (by omega)]
        exact hj) (by rw [hcs, hlB]; omega) (fun u hu => ent_one fb l u (List.mem_of_mem_drop hu))
  obtain ⟨L1, hL1⟩ : ∃ L1, (cur.toList.take ((i + 1) * 2) ++ (row (ent fb) l).drop (i * 2) ++ cur.toList.drop ((i + 1) * 2 + ((row (ent fb) l).drop (i * 2)).length)) = L1 := ⟨_, rfl⟩
  rw [hL1] at hcp1
  obtain ⟨w2, hw2⟩ : ∃ w2, w.drew.setRow g L1.toArray = w2 := ⟨_, rfl⟩
  have hg2 : w2.heap[g]? = some (.cells L1.toArray 104 (0, 0)) := by rw [← hw2]; exact setRow_heap w.drew _ cur _ _ _ hg
  have hK2 : Kept (fun k => some g = some k) w w2 := by rw [← hw2]; exact Kept.setRow (S := fun k => some g = some k) ((Kept.refl _ w).drew) (.inl rfl) _
  rw [hw2] at hcp1
  have hL1s : L1.length = cap * 2 := by
    rw [← hL1]
    simp only [List.length_append, List.length_take, List.length_drop, hL0l]
    omega
  have hcp2 := fun ty => run_copy_X (P := Try.prog) w2 79 78 ty _ 2 g (i * 2) (N + 1 - i) (cap - i) ⟨a, 0, none⟩ 1 1 1 L1.toArray _ (ent fb (n, f)) hT Try.sizeEnt hg2 (by simp only [Nat.min_def]; split <;> omega) rfl
      (srcOf (hS.kept hK2 (fun j hj he => by
        have e1 : a = j := by simpa [Value.ownBlock] using hj.2
        have e2 : g = j := by simpa using he
        omega))) (by rw [List.size_toArray, hL1s]; show i * 2 + 2 ≤ _; omega) ent_mem
  obtain ⟨L2, hL2⟩ : ∃ L2, (L1.toArray.toList.take (i * 2) ++ ent fb (n, f) ++ L1.toArray.toList.drop (i * 2 + (ent fb (n, f)).length)) = L2 := ⟨_, rfl⟩
  rw [hL2] at hcp2
  obtain ⟨w3, hw3⟩ : ∃ w3, w2.setRow g L2.toArray = w3 := ⟨_, rfl⟩
  have hg3 : w3.heap[g]? = some (.cells L2.toArray 104 (0, 0)) := by rw [← hw3]; exact setRow_heap w2 _ L1.toArray _ _ _ hg2
  have hK3 : Kept (fun k => some g = some k) w w3 := by rw [← hw3]; exact hK2.setRow (.inl rfl) _
  rw [hw3] at hcp2
  have hlist := ins_list cur.toList ((row (ent fb) l).take (i * 2)) (ent fb (n, f)) ((row (ent fb) l).drop (i * 2)) (i * 2) 2 hL0t rfl (by rw [hL0l, hlB]; omega)
  rw [show i * 2 + 2 = (i + 1) * 2 from by omega, hL1, show (i + 1) * 2 = i * 2 + (ent fb (n, f)).length from by show _ = i * 2 + 2; omega] at hlist
  rw [show L1 = L1.toArray.toList from rfl, hL2, hlB, show i * 2 + (ent fb (n, f)).length + (N - i) * 2 = (N + 1) * 2 from by show i * 2 + 2 + _ = _; omega] at hlist
  have hl0 : ((row (ent fb) l).take (i * 2)).length = i * 2 := by rw [List.length_take, hlr]; omega
  have hO3 : w3.ownsRow 0 104 2 (.slice (some ⟨g, 0, none⟩) (N + 1) cap) (N + 1) (row (ent fb) (l.take i ++ (n, f) :: l.drop i)) := by
    have e : row (ent fb) (l.take i ++ (n, f) :: l.drop i) = (row (ent fb) l).take (i * 2) ++ ent fb (n, f) ++ (row (ent fb) l).drop (i * 2) := by
      rw [row_append, row_cons, row_take (ent_len fb), row_drop (ent_len fb), List.append_assoc]
    rw [e]
    refine ⟨by simp only [List.length_append, hl0, hlB]; show i * 2 + 2 + _ = _; omega, .inr ⟨g, cap, _, rfl, Nat.zero_le _, hg3, hroom, hcm, ?_, ?_⟩⟩
    · rw [List.size_toArray, hlist.2, hL0l]
    · rw [List.toList_toArray]
      exact hlist.1
  have HO := Lib.hid hO3
  have HK := Lib.hid hK3
  have HC1 := Lib.hid hcp1
  have HC2 := Lib.hid hcp2
  have hne : ((i : Int) == (N : Int)) = false := by simp; omega
  have hgt : ((N : Int) + 1 ≤ (cap : Int)) := by omega
  have hS1 := fun W => len_X (P := Try.prog) hS 78 3 _ Try.underlying78 W
  have hcap := fun (W : World) (ty : TypeId) => run_cap_slice (P := Try.prog) W 79 ty (some ⟨g, 0, none⟩) N cap (by simp [Program.elem, hT])
  rw [show ((i + 1 : Nat) : Int) = (i : Int) + 1 from rfl] at hsD
  rw [show ((N + 1 : Nat) : Int) = (N : Int) + 1 from rfl] at hs3
  have HB := Lib.hid (show Value.ownBlock (.slice (some ⟨g, 0, none⟩) (N + 1) cap) = some g from rfl)
  have hwr : IntKind.i64.wrap ((i : Int) + 1) = (i : Int) + 1 := IntWalk.i64_in _ (by omega)
  refine (walk_room _ _ _ _ _ _ i N cap w w2 w3 hi hl hne hgt hlen hcap hS1 hsI hs3 hsS hsD hov _ _ HC1 HC2 hwr).mono fun e w' => ?_
  rintro ⟨rfl, rfl⟩
  exact ⟨_, rfl, HO.out, HK.out, .inl HB.out⟩

/-- An entry laid in. -/
theorem tins_any (fb : Nat → Nat) (v : Value) (l : Tbl) (n : ByteArray) (f a i : Nat) (w : World) (hv : w.ownsRow 0 104 2 v l.length (row (ent fb) l)) (hi : i ≤ l.length) (hl : l.length ≤ 1048576) (hva : v.ownBlock ≠ some a)
    (ha : w.heap[a]? = some (.cells #[.string n, .pointer (some ⟨fb f, 0, none⟩)] 104 (0, 0))) :
    Calls Try.prog 62 #[v, .int .i64 (i : Int), .slice (some ⟨a, 0, none⟩) 1 1] w fun e w' =>
      ∃ v', e = .returned v' ∧ w'.ownsRow 0 104 2 v' (l.length + 1) (row (ent fb) (l.take i ++ (n, f) :: l.drop i)) ∧ Kept (fun k => v.ownBlock = some k) w w' ∧ (v'.ownBlock = v.ownBlock ∨ v'.ownBlock = some w.heap.size) := by
  by_cases h : i = l.length
  · subst h
    have := tins_end fb v l n f a w hv hl ha
    rw [List.take_length, List.drop_length]
    exact this
  · rcases hv.2 with ⟨rfl, h0⟩ | ⟨g, cap, cur, rfl, _, hg, hnc, hcm, _⟩
    · omega
    · have hga : g ≠ a := fun e => hva (by rw [← e]; rfl)
      by_cases hr : l.length + 1 ≤ cap
      · exact tins_room fb l n f a g i l.length cap w hv rfl (by omega) hl hr hcm hga ha
      · exact tins_grow fb l n f a g i l.length cap w hv rfl (by omega) hl (by omega) hcm hga ha

end Go.Proofs.Ytnofabeajcdddaa
