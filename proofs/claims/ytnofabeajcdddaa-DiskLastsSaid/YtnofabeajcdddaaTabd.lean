/- Tables of names: cloned, an entry taken out, an entry laid in: by contracts. -/
import Derived.Test.YtnofabeajcdddaaTab
import Derived.Lib.SliceRun
import Derived.Lib.Overlaps
import Derived.Deep.RegionLaw
namespace Go.Proofs.Ytnofabeajcdddaa
open Go.RowKit Go.Cor

set_option maxHeartbeats 400000 in
theorem tclone_any (fb : Nat → Nat) (v : Value) (l : Tbl) (w : World) (hv : IsT w fb v l) (hl : l.length ≤ 1048576) :
    Calls Try.prog 60 #[v] w fun e w' =>
      ∃ v', e = .returned v' ∧ w'.ownsRow w.heap.size 104 2 v' l.length (row (ent fb) l) ∧ Below w.heap.size w w' := by
  obtain ⟨i0, hi, hz0, hz1, hz2⟩ := info_parts Try.infoEnt
  have q22 : ∀ (w : World) (a : Option Addr) (n c n' c' : Nat), (binOp .eql 79 (.slice a n c) (.slice none n' c')).run Try.prog w = .ok (.bool a.isNone) w := fun w a n c n' c' => Lib.run_eql_slice_nil w _ _ a n c n' c' Try.underlying79
  have HV := Lib.hid hv
  obtain ⟨x, cap, rfl, hlc, hcm, hll, hnc, hcell⟩ := hv
  clear hcell hll
  cases x with
  | none =>
    obtain rfl := hnc rfl
    obtain rfl : l = [] := List.eq_nil_of_length_eq_zero (by omega)
    go_enter Try.func60, Try.ntmps60
    go_wp2
    go_ret
    exact ⟨_, rfl, World.ownsRow_nil _ _ _ _, Below.refl _ _⟩
  | some a =>
    clear hnc
    go_enter Try.func60, Try.ntmps60
    go_wp2_with (at_builtin; refine wpList_append_X (by rfl) _ _ 79 79 rfl (fun _ _ _ => rfl) w.heap.size 104 i0 _ 2 24 Try.underlying79 hi hz0 hz1 hz2 rfl (by decide) _ [] 0 rfl (World.ownsRow_lit _ #[] 0 (Nat.le_refl _) (Nat.zero_le _) rfl) _ l.length _ rfl (HV.out.mono ((Below.refl _ _).alloc (Nat.le_refl _) _) (Nat.le_refl _)) (ent_one fb l) (by unfold maxLen; omega) (by omega) (by simp) ?_; intro v4 w4 hown4 hb4 hl4)
    go_ret
    refine ⟨_, rfl, by simpa using hown4, ((Below.refl _ _).alloc (Nat.le_refl _) _).grown hb4 (by simp) (fun k hk => ?_)⟩
    have : some w.heap.size = some k := hk
    cases this
    exact Nat.le_refl _

theorem zero_ent : ∀ w, (zeroValue 104).run Try.prog w = .ok (.agg #[.string ⟨#[]⟩, .pointer none]) w := fun w => by
  obtain ⟨i0, hi, hz0, hz1, hz2⟩ := info_parts Try.infoEnt
  simp [zeroValue, typeInfo, hi, hz0]

set_option maxRecDepth 100000 in
set_option maxHeartbeats 1000000 in
theorem tdel_any (fb : Nat → Nat) (v : Value) (l : Tbl) (i : Nat) (w : World) (hv : w.ownsRow 0 104 2 v l.length (row (ent fb) l)) (hi : i < l.length) (hl : l.length ≤ 1048576) :
    Calls Try.prog 61 #[v, .int .i64 (i : Int), .int .i64 ((i : Int) + 1)] w fun e w' =>
      ∃ v', e = .returned v' ∧ w'.ownsRow 0 104 2 v' (l.eraseIdx i).length (row (ent fb) (l.eraseIdx i)) ∧ Kept (fun k => v.ownBlock = some k) w w' ∧ v'.ownBlock = v.ownBlock := by
  obtain ⟨i0, hinf, hz0, hz1, hz2⟩ := info_parts Try.infoEnt
  have hT := Try.underlying79
  have hX := IsX.own hv
  rcases hv.2 with ⟨rfl, h0⟩ | ⟨g, cap, cur, rfl, hb0, hg, hlc, hcm, hcs, htake⟩
  · omega
  have hlr := length_row (ent_len fb) l
  obtain ⟨N, hN⟩ : ∃ N, l.length = N := ⟨_, rfl⟩
  rw [hN] at hX hi hl hlc hv hlr
  have hs0 := slice_h_X (P := Try.prog) 2 (some ⟨g, 0, none⟩) N cap 79 _ hT Try.sizeEnt i (by omega)
  have hs1 := slice_l_X (P := Try.prog) hX 79 _ hT Try.sizeEnt (i + 1) (by omega)
  obtain ⟨u3, hs3⟩ := slice_lhm_C (P := Try.prog) 2 (some ⟨g, 0, none⟩) N cap 79 _ hT Try.sizeEnt i (i + 1) N (by omega) (by omega) hlc
  have hlen := fun W => len_X (P := Try.prog) hX 79 3 _ hT W
  have hown0 := ownsRow_take hv (Nat.le_of_lt hi)
  have hX1 := hX.piece (lo := i + 1) (hi := N) (by omega) (Nat.le_refl _)
  obtain ⟨ad, had⟩ := sliced_some ⟨g, 0, none⟩ (i + 1) N cap 2
  rw [had] at hs1 hX1
  have hB : ((row (ent fb) l).drop ((i + 1) * 2)).take ((N - (i + 1)) * 2) = (row (ent fb) l).drop ((i + 1) * 2) := List.take_of_length_le (by rw [List.length_drop, hlr]; omega)
  rw [hB] at hX1
  obtain ⟨w1, hap, hown1, hgr1⟩ := run_append_fits (P := Try.prog) w.drew 0 79 79 _ i0 2 hT hinf hz1 g i cap _ hown0 ad (N - (i + 1)) (cap - (i + 1)) ((row (ent fb) l).drop ((i + 1) * 2)) (by rw [List.length_drop, hlr]; omega)
    (fun j u hj => by
      obtain ⟨a', c', e', k1, k2, k3, k4, k5⟩ := hX1
      cases e'
      have hjl := (List.getElem?_eq_some_iff.1 hj).1
      rcases k5 with k5 | ⟨b, off, e1, hc⟩
      · omega
      · cases e1
        rw [add_lit]
        exact (hc j (by rw [← k3]; exact hjl)).trans hj) (fun u hu => ent_one fb l u (List.mem_of_mem_drop hu)) (by omega)
  have hN1 : i + (N - (i + 1)) = N - 1 := by omega
  rw [hN1] at hap hown1
  have hX2 := IsX.own hown1
  have hlen2 := fun W => len_X (P := Try.prog) hX2 79 3 _ hT W
  have hs4 := slice_lh_C (P := Try.prog) 2 (some ⟨g, 0, none⟩) (N - 1) cap 79 _ hT Try.sizeEnt (N - 1) N (by omega) hlc
  rw [sliced_at _ _ _ _ _ _ (by omega), Nat.zero_add, show N - (N - 1) = 1 from by omega] at hs4
  have hcur := hown1.2
  rcases hcur with ⟨hbad, _⟩ | ⟨g', cap', cur1, he1, _, hg1, hlc1, hcm1, hcs1, htake1⟩
  · cases hbad
  cases he1
  have hzl : (Builtin.zeroCells (Value.agg #[.string ⟨#[]⟩, .pointer none]).cells 1).toList = [.string ⟨#[]⟩, .pointer none] := by kernel_rfl
  have hcl := fun ty => run_clear_X (P := Try.prog) w1 79 _ ty _ hT zero_ent g ((N - 1) * 2) 1 (cap - (N - 1)) (by decide) cur1 _ hg1 (by rw [hzl, hcs1]; show (N - 1) * 2 + 2 ≤ _; omega) (by rw [hzl]; intro u hu; simp only [List.mem_cons, List.not_mem_nil, or_false] at hu; rcases hu with rfl | rfl <;> rfl)
  rw [hzl] at hcl
  have hrow2 := setRow_heap w1 g cur1 (cur1.toList.take ((N - 1) * 2) ++ [Value.string ⟨#[]⟩, .pointer none] ++ cur1.toList.drop ((N - 1) * 2 + [Value.string ⟨#[]⟩, .pointer none].length)).toArray 104 _ hg1
  have hK2 : Kept (fun k => some g = some k) w (w1.setRow g (cur1.toList.take ((N - 1) * 2) ++ [Value.string ⟨#[]⟩, .pointer none] ++ cur1.toList.drop ((N - 1) * 2 + [Value.string ⟨#[]⟩, .pointer none].length)).toArray) :=
    (((Kept.refl _ w).drew).grown hgr1 (fun k hk => .inl hk)).setRow (.inl rfl) _
  generalize w1.setRow g (cur1.toList.take ((N - 1) * 2) ++ [Value.string ⟨#[]⟩, .pointer none] ++ cur1.toList.drop ((N - 1) * 2 + [Value.string ⟨#[]⟩, .pointer none].length)).toArray = w2 at hcl hrow2 hK2
  have hown2 : w2.ownsRow 0 104 2 (.slice (some ⟨g, 0, none⟩) (N - 1) cap) (N - 1) (row (ent fb) (l.eraseIdx i)) := by
    have hxs : (row (ent fb) l).take (i * 2) ++ (row (ent fb) l).drop ((i + 1) * 2) = row (ent fb) (l.eraseIdx i) := by rw [erase_take_drop, row_append, row_take (ent_len fb), row_drop (ent_len fb)]
    rw [hxs] at hown1 htake1
    have hlt : (cur1.toList.take ((N - 1) * 2)).length = (N - 1) * 2 := by rw [List.length_take, Array.length_toList, hcs1]; omega
    refine ⟨hown1.1, .inr ⟨g, cap, _, rfl, Nat.zero_le _, hrow2, hlc1, hcm1, ?_, ?_⟩⟩
    · simp only [List.size_toArray, List.length_append, List.length_drop, hlt, Array.length_toList, hcs1, List.length_cons, List.length_nil]
      omega
    · show List.take _ (_ ++ _ ++ _) = _
      rw [List.append_assoc, List.take_left' hlt]
      exact htake1
  have hel : (l.eraseIdx i).length = N - 1 := by rw [List.length_eraseIdx, hN, if_pos hi]
  rw [hel, hN]
  have HO := Lib.hid hown2
  have HK := Lib.hid hK2
  have hne : ((i : Int) == (i : Int) + 1) = false := by simp; omega
  have hs1' := hs1
  rw [show ((i + 1 : Nat) : Int) = (i : Int) + 1 from rfl] at hs1' hs3
  have hap' : (Builtin.append_ #[79, 79] 79 #[.slice (some ⟨g, 0, none⟩) i cap, .slice (some ad) (N - (i + 1)) (cap - (i + 1))]).run Try.prog w.drew = .ok (.slice (some ⟨g, 0, none⟩) (N - 1) cap) w1 := hap
  have hb : Value.ownBlock (.slice (some ⟨g, 0, none⟩) N cap) = some g := rfl
  have hb2 : Value.ownBlock (.slice (some ⟨g, 0, none⟩) (N - 1) cap) = some g := rfl
  rw [hb]
  clear hown1 hown2 hK2 hrow2 hg1 hcs1 htake1 hlc1 hcm1 hX2 hX1 hX hv hgr1 hown0 hs1 hap hg hcs htake hN hel hlr hB hzl hb
  generalize hV : Value.slice (some ⟨g, 0, none⟩) N cap = V at *
  generalize hV0 : Value.slice (some ⟨g, 0, none⟩) i cap = V0 at *
  generalize hV1 : Value.slice (some ad) (N - (i + 1)) (cap - (i + 1)) = V1 at *
  generalize hV2 : Value.slice (some ⟨g, 0, none⟩) (N - 1) cap = V2 at *
  generalize hV3 : Value.slice (some ⟨g, (N - 1) * 2, none⟩) 1 (cap - (N - 1)) = V3 at *
  clear hV hV0 hV1 hV2 hV3
  have HB2 := Lib.hid hb2
  have HAP := Lib.hid hap'
  clear hb2 hap' hN1
  go_enter Try.func61, Try.ntmps61
  go_wp2
  go_region_law (refine step_append_run rfl _ _ 79 79 rfl _ _ rfl rfl HAP.out ?_)
  go_wp2
  go_ret
  exact ⟨_, rfl, HO.out, HK.out, HB2.out⟩

end Go.Proofs.Ytnofabeajcdddaa
