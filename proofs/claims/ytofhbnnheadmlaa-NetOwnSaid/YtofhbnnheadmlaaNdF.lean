/- Nk, Nd. -/
import Derived.Test.YtofhbnnheadmlaaChecked
import Derived.Test.YtofhbnnheadmlaaNetp
import Derived.Test.YtofhbnnheadmlaaBlk
import Derived.Maps.OwnSet
import Derived.DeepKeys5
import Derived.WalkKit
import Derived.ProofKit
import Derived.Lib.SliceRun
import Derived.Lib.Overlaps
import Derived.Lib.Hide
import Derived.Deep.RegionLaw
set_option linter.unusedVariables false
set_option linter.unusedSimpArgs false

section
namespace Go.Proofs.Ytofhbnnheadmlaa
open Go.RowKit Go.Cor

theorem Try.laidOut15 : laidOutB Try.prog = true := by kernel_rfl
theorem Try.rowPr : (77 : TypeId) < Try.prog.types.size := of_decide_eq_true (by kernel_rfl)
theorem law_struct {P : Program} {k : TypeId} {fs : Array Field} (hl : laidOutB P = true) (hr : k < P.types.size) (hk : P.keyTypeAt 2 k = true) (h : P.underlying k = some (.struct fs)) : Go.Maps.Keyed P k :=
  Go.Maps.Keyed.of_law (deep_law_laid hl (m := 2) (by omega) hr hk (by rw [h]))
theorem Try.lawPr : Go.Maps.Keyed Try.prog 77 := law_struct Try.laidOut15 Try.rowPr (by kernel_rfl) Try.underlying77
theorem Try.keyPr : Try.prog.keyType 77 = true := by kernel_rfl
theorem Try.coPr : Try.prog.cellsOf 77 = 2 := by kernel_rfl
theorem Try.coIntP : Try.prog.cellsOf 3 = 1 := by kernel_rfl
theorem Try.zeroUn (w : World) : (zeroValue 79).run Try.prog w = .ok (.agg #[]) w := by kernel_rfl
/-- A number that a place's slot can hold. -/
def wfI (a : Int) : Prop := (Lit.int .i64 a).wf = true
theorem wfI_of {a : Int} (h1 : -9223372036854775808 ≤ a) (h2 : a ≤ 9223372036854775807) : wfI a := WalkArith.wf_i64 ⟨h1, h2⟩
/-- What a key reads as. -/
def klit (a b : Int) : Lit := .string (keyBytes [.int .i64 a, .int .i64 b])
theorem keyLits_two {P : Program} {k : TypeId} {f0 f1 : Field} {n : Nat} {a b : Int} (hk : P.underlying k = some (.struct #[f0, f1])) (hn : (#[f0, f1] : Array Field).all (·.name != "_") = true) (hc : P.cellsOf k = 2)
    (t0 : P.underlying f0.type = some (.int .i64)) (t1 : P.underlying f1.type = some (.int .i64)) (c0 : P.cellsOf f0.type = 1) (c1 : P.cellsOf f1.type = 1) (o0 : f0.offset = 0) (o1 : f1.offset = 1) (ha : wfI a) (hb : wfI b) :
    P.keyLits (n + 2) k [.int .i64 a, .int .i64 b] = some [.int .i64 a, .int .i64 b] := by
  unfold wfI at ha hb
  have e0 : P.keyLits (n + 1) f0.type [.int .i64 a] = some [.int .i64 a] := by
    unfold Program.keyLits
    rw [t0]
    simp [ha]
  have e1 : P.keyLits (n + 1) f1.type [.int .i64 b] = some [.int .i64 b] := by
    unfold Program.keyLits
    rw [t1]
    simp [hb]
  unfold Program.keyLits
  rw [hk]
  simp [hc, c0, c1, o0, o1, e0, e1]
  simpa using hn
theorem keyOf_two {P : Program} {k : TypeId} {f0 f1 : Field} {a b : Int} (hr : k < P.types.size) (hkt : P.keyType k = true) (hk : P.underlying k = some (.struct #[f0, f1])) (hn : (#[f0, f1] : Array Field).all (·.name != "_") = true) (hc : P.cellsOf k = 2)
    (t0 : P.underlying f0.type = some (.int .i64)) (t1 : P.underlying f1.type = some (.int .i64)) (c0 : P.cellsOf f0.type = 1) (c1 : P.cellsOf f1.type = 1) (o0 : f0.offset = 0) (o1 : f1.offset = 1) (ha : wfI a) (hb : wfI b) :
    keyOf P k (.agg #[.int .i64 a, .int .i64 b]) = some (klit a b) := by
  obtain ⟨n, hsz⟩ : ∃ n, P.types.size + 1 = n + 2 := ⟨P.types.size - 1, by have h0 : 0 < P.types.size := Nat.lt_of_le_of_lt (Nat.zero_le _) hr; omega⟩
  have h := keyLits_two (n := n) hk hn hc t0 t1 c0 c1 o0 o1 ha hb
  unfold keyOf
  rw [hk, hsz]
  simp [hkt, Value.formed, hk, hc, Value.cells, h, klit]
theorem keyOf_pr {a b : Int} (ha : wfI a) (hb : wfI b) : keyOf Try.prog 77 (.agg #[.int .i64 a, .int .i64 b]) = some (klit a b) :=
  keyOf_two Try.rowPr Try.keyPr Try.underlying77 (by kernel_rfl) Try.coPr Try.underlying3 Try.underlying3 Try.coIntP Try.coIntP rfl rfl ha hb
theorem klit_inj {a b c d : Int} (ha : wfI a) (hb : wfI b) (hc : wfI c) (hd : wfI d) (h : klit a b = klit c d) : a = c ∧ b = d := by
  have h1 := keyOf_pr ha hb
  have h2 := keyOf_pr hc hd
  rw [h] at h1
  have := Try.lawPr.inj h1 h2
  simpa using this
theorem klit_key {a b : Int} (ha : wfI a) (hb : wfI b) : WideAt.IsKeyLit (klit a b) := Try.lawPr.key (keyOf_pr ha hb)
/-- Two places, the lesser one first. -/
def lo2 (a b : Int) : Int := if a ≤ b then a else b
def hi2 (a b : Int) : Int := if a ≤ b then b else a
theorem wf_lo2 {a b : Int} (ha : wfI a) (hb : wfI b) : wfI (lo2 a b) := by unfold lo2; split <;> assumption
theorem wf_hi2 {a b : Int} (ha : wfI a) (hb : wfI b) : wfI (hi2 a b) := by unfold hi2; split <;> assumption
theorem pairB_lohi (a b x y : Int) : pairB (a, b) x y = decide (lo2 a b = lo2 x y ∧ hi2 a b = hi2 x y) := by
  unfold pairB lo2 hi2
  dsimp only
  rw [decide_eq_decide]
  split <;> split <;> omega
def kl2 (a b : Int) : Lit := klit (lo2 a b) (hi2 a b)
theorem keyOf_2 {a b : Int} (ha : wfI a) (hb : wfI b) : keyOf Try.prog 77 (.agg #[.int .i64 (lo2 a b), .int .i64 (hi2 a b)]) = some (kl2 a b) := keyOf_pr (wf_lo2 ha hb) (wf_hi2 ha hb)
theorem kl2_eq {a b x y : Int} (ha : wfI a) (hb : wfI b) (hx : wfI x) (hy : wfI y) : kl2 a b = kl2 x y ↔ pairB (a, b) x y = true := by
  rw [pairB_lohi, decide_eq_true_iff]
  constructor
  · intro h
    exact klit_inj (wf_lo2 ha hb) (wf_hi2 ha hb) (wf_lo2 hx hy) (wf_hi2 hx hy) h
  · rintro ⟨h1, h2⟩
    unfold kl2
    rw [h1, h2]
/-- The map's keys are the pairs that are cut. -/
def CutsD (D : DataW Unit) (c : List (Int × Int)) : Prop := Go.Maps.IsMap D ∧ ∀ a b, wfI a → wfI b → Go.Maps.has D (kl2 a b) = apartP c a b
theorem CutsD.empty {c : List (Int × Int)} (h : ∀ a b, wfI a → wfI b → apartP c a b = false) : CutsD (.map []) c := ⟨Go.Maps.isMap_empty, fun a b ha hb => by rw [h a b ha hb]; rfl⟩
theorem CutsD.put {D : DataW Unit} {c : List (Int × Int)} (h : CutsD D c) {a b : Int} (ha : wfI a) (hb : wfI b) (d : DataW Unit) : CutsD (D.put (kl2 a b) d) (cutP c a b true) := by
  refine ⟨h.1.put _ _, fun x y hx hy => ?_⟩
  cases hp : pairB (a, b) x y with
  | true =>
    have e := (kl2_eq ha hb hx hy).2 hp
    rw [← e, Go.Maps.has_put_same (k := kl2 a b) h.1 (klit_key (wf_lo2 ha hb) (wf_hi2 ha hb))]
    have := apartP_cut c a b true
    rw [pairB_lohi, decide_eq_true_iff] at hp
    have h2 : apartP (cutP c a b true) x y = apartP (cutP c a b true) a b := by
      unfold apartP
      congr 1
      funext p
      unfold pairB
      rw [decide_eq_decide]
      unfold lo2 hi2 at hp
      split at hp <;> split at hp <;> omega
    rw [h2, this]
  | false =>
    rw [apartP_other c a b x y true hp, Go.Maps.has_put_other (fun e => by rw [(kl2_eq ha hb hx hy).1 e.symm] at hp; cases hp)]
    exact h.2 x y hx hy
theorem apart_del {c : List (Int × Int)} {a b x y : Int} : apartP (cutP c a b false) x y = if pairB (a, b) x y = true then false else apartP c x y := by
  split
  · rename_i hp
    rw [pairB_lohi, decide_eq_true_iff] at hp
    have h2 : apartP (cutP c a b false) x y = apartP (cutP c a b false) a b := by
      unfold apartP
      congr 1
      funext p
      unfold pairB
      rw [decide_eq_decide]
      unfold lo2 hi2 at hp
      split at hp <;> split at hp <;> omega
    rw [h2, apartP_cut]
  · rename_i hp
    exact apartP_other c a b x y false (by simpa using hp)
theorem CutsD.del {D : DataW Unit} {c : List (Int × Int)} (h : CutsD D c) {a b : Int} (ha : wfI a) (hb : wfI b) : CutsD (D.del (kl2 a b)) (cutP c a b false) := by
  refine ⟨h.1.del _, fun x y hx hy => ?_⟩
  rw [apart_del]
  split
  · rename_i hp
    rw [← (kl2_eq ha hb hx hy).2 hp, Go.Maps.has_del_same]
  · rename_i hp
    rw [Go.Maps.has_del_other (fun e => hp ((kl2_eq ha hb hx hy).1 e.symm))]
    exact h.2 x y hx hy

end Go.Proofs.Ytofhbnnheadmlaa
end

section
namespace Go.Proofs.Ytofhbnnheadmlaa
open Go.RowKit Go.Cor

theorem Try.infoBs : (Try.prog.info? 26).map (fun i => (i.zero, i.size, i.bytes)) = some (some (.slice none 0 0), 1, 24) := by kernel_rfl
theorem Try.sizeBs : (Try.prog.info? 26).map (·.size) = some 1 := by kernel_rfl
/-- A packet's cell: its bytes. -/
def pkc (x : Msg × Value) : List Value := [x.2]
theorem pkc_len (x : Msg × Value) : (pkc x).length = 1 := rfl
theorem pkc_one {l : List (Msg × Value)} (h : ∀ x ∈ l, x.2.oneCell' = true) : ∀ u ∈ row pkc l, u.oneCell' = true := row_mem fun x hx u hu => by
  simp only [pkc, List.mem_cons, List.not_mem_nil, or_false] at hu
  subst hu
  exact h x hx
theorem zero_bs : ∀ w, (zeroValue 26).run Try.prog w = .ok (.slice none 0 0) w := fun w => by
  obtain ⟨i0, hi, hz0, hz1, hz2⟩ := info_parts Try.infoBs
  simp [zeroValue, typeInfo, hi, hz0]

set_option maxRecDepth 100000 in
set_option maxHeartbeats 1000000 in
theorem tdel_any (v : Value) (l : List (Msg × Value)) (i : Nat) (w : World) (hone : ∀ x ∈ l, x.2.oneCell' = true) (hv : w.ownsRow 0 26 1 v l.length (row pkc l)) (hi : i < l.length) (hl : l.length ≤ 1048576) :
    Calls Try.prog 41 #[v, .int .i64 (i : Int), .int .i64 ((i : Int) + 1)] w fun e w' =>
      ∃ v', e = .returned v' ∧ w'.ownsRow 0 26 1 v' (l.eraseIdx i).length (row pkc (l.eraseIdx i)) ∧ Kept (fun k => v.ownBlock = some k) w w' ∧ v'.ownBlock = v.ownBlock := by
  obtain ⟨i0, hinf, hz0, hz1, hz2⟩ := info_parts Try.infoBs
  have hT := Try.underlying63
  have hX := IsX.own hv
  rcases hv.2 with ⟨rfl, h0⟩ | ⟨g, cap, cur, rfl, hb0, hg, hlc, hcm, hcs, htake⟩
  · omega
  have hlr := length_row (pkc_len) l
  obtain ⟨N, hN⟩ : ∃ N, l.length = N := ⟨_, rfl⟩
  rw [hN] at hX hi hl hlc hv hlr
  have hs0 := slice_h_X (P := Try.prog) 1 (some ⟨g, 0, none⟩) N cap 63 _ hT Try.sizeBs i (by omega)
  have hs1 := slice_l_X (P := Try.prog) hX 63 _ hT Try.sizeBs (i + 1) (by omega)
  obtain ⟨u3, hs3⟩ := slice_lhm_C (P := Try.prog) 1 (some ⟨g, 0, none⟩) N cap 63 _ hT Try.sizeBs i (i + 1) N (by omega) (by omega) hlc
  have hlen := fun W => len_X (P := Try.prog) hX 63 3 _ hT W
  have hown0 := ownsRow_take hv (Nat.le_of_lt hi)
  have hX1 := hX.piece (lo := i + 1) (hi := N) (by omega) (Nat.le_refl _)
  obtain ⟨ad, had⟩ := sliced_some ⟨g, 0, none⟩ (i + 1) N cap 1
  rw [had] at hs1 hX1
  have hB : ((row pkc l).drop ((i + 1) * 1)).take ((N - (i + 1)) * 1) = (row pkc l).drop ((i + 1) * 1) := List.take_of_length_le (by rw [List.length_drop, hlr]; omega)
  rw [hB] at hX1
  obtain ⟨w1, hap, hown1, hgr1⟩ := run_append_fits (P := Try.prog) w.drew 0 63 63 _ i0 1 hT hinf hz1 g i cap _ hown0 ad (N - (i + 1)) (cap - (i + 1)) ((row pkc l).drop ((i + 1) * 1)) (by rw [List.length_drop, hlr]; omega)
    (fun j u hj => by
      obtain ⟨a', c', e', k1, k2, k3, k4, k5⟩ := hX1
      cases e'
      have hjl := (List.getElem?_eq_some_iff.1 hj).1
      rcases k5 with k5 | ⟨b, off, e1, hc⟩
      · omega
      · cases e1
        rw [add_lit]
        exact (hc j (by rw [← k3]; exact hjl)).trans hj) (fun u hu => pkc_one hone u (List.mem_of_mem_drop hu)) (by omega)
  have hN1 : i + (N - (i + 1)) = N - 1 := by omega
  rw [hN1] at hap hown1
  have hX2 := IsX.own hown1
  have hlen2 := fun W => len_X (P := Try.prog) hX2 63 3 _ hT W
  have hs4 := slice_lh_C (P := Try.prog) 1 (some ⟨g, 0, none⟩) (N - 1) cap 63 _ hT Try.sizeBs (N - 1) N (by omega) hlc
  rw [sliced_at _ _ _ _ _ _ (by omega), Nat.zero_add, show N - (N - 1) = 1 from by omega] at hs4
  have hcur := hown1.2
  rcases hcur with ⟨hbad, _⟩ | ⟨g', cap', cur1, he1, _, hg1, hlc1, hcm1, hcs1, htake1⟩
  · cases hbad
  cases he1
  have hzl : (Builtin.zeroCells (Value.slice none 0 0).cells 1).toList = [.slice none 0 0] := by kernel_rfl
  have hcl := fun ty => run_clear_X (P := Try.prog) w1 63 _ ty _ hT zero_bs g ((N - 1) * 1) 1 (cap - (N - 1)) (by decide) cur1 _ hg1 (by rw [hzl, hcs1]; show (N - 1) * 1 + 1 ≤ _; omega) (by rw [hzl]; intro u hu; simp only [List.mem_cons, List.not_mem_nil, or_false] at hu; subst hu; rfl)
  rw [hzl] at hcl
  have hrow2 := setRow_heap w1 g cur1 (cur1.toList.take ((N - 1) * 1) ++ [Value.slice none 0 0] ++ cur1.toList.drop ((N - 1) * 1 + [Value.slice none 0 0].length)).toArray 26 _ hg1
  have hK2 : Kept (fun k => some g = some k) w (w1.setRow g (cur1.toList.take ((N - 1) * 1) ++ [Value.slice none 0 0] ++ cur1.toList.drop ((N - 1) * 1 + [Value.slice none 0 0].length)).toArray) :=
    (((Kept.refl _ w).drew).grown hgr1 (fun k hk => .inl hk)).setRow (.inl rfl) _
  generalize w1.setRow g (cur1.toList.take ((N - 1) * 1) ++ [Value.slice none 0 0] ++ cur1.toList.drop ((N - 1) * 1 + [Value.slice none 0 0].length)).toArray = w2 at hcl hrow2 hK2
  have hown2 : w2.ownsRow 0 26 1 (.slice (some ⟨g, 0, none⟩) (N - 1) cap) (N - 1) (row pkc (l.eraseIdx i)) := by
    have hxs : (row pkc l).take (i * 1) ++ (row pkc l).drop ((i + 1) * 1) = row pkc (l.eraseIdx i) := by rw [List.eraseIdx_eq_take_drop_succ, row_append, row_take (pkc_len), row_drop (pkc_len)]
    rw [hxs] at hown1 htake1
    have hlt : (cur1.toList.take ((N - 1) * 1)).length = (N - 1) * 1 := by rw [List.length_take, Array.length_toList, hcs1]; omega
    refine ⟨hown1.1, .inr ⟨g, cap, _, rfl, Nat.zero_le _, hrow2, hlc1, hcm1, ?_, ?_⟩⟩
    · simp only [List.size_toArray, List.length_append, List.length_drop, hlt, Array.length_toList, hcs1, List.length_cons, List.length_nil]
      omega
    · show List.take _ (_ ++ _ ++ _) = _
      rw [List.append_assoc, List.take_left' hlt]
      exact htake1
  have hel : (l.eraseIdx i).length = N - 1 := by rw [List.length_eraseIdx, hN, if_pos hi]
  rw [hel, hN]
  have HO := Lib.hid hown2
  have HK := Lib.hid hK2
  have hne : ((i : Int) == (i : Int) + 1) = false := by simp; omega
  have hs1' := hs1
  rw [show ((i + 1 : Nat) : Int) = (i : Int) + 1 from rfl] at hs1' hs3
  have hap' : (Builtin.append_ #[63, 63] 63 #[.slice (some ⟨g, 0, none⟩) i cap, .slice (some ad) (N - (i + 1)) (cap - (i + 1))]).run Try.prog w.drew = .ok (.slice (some ⟨g, 0, none⟩) (N - 1) cap) w1 := hap
  have hb : Value.ownBlock (.slice (some ⟨g, 0, none⟩) N cap) = some g := rfl
  have hb2 : Value.ownBlock (.slice (some ⟨g, 0, none⟩) (N - 1) cap) = some g := rfl
  rw [hb]
  clear hown1 hown2 hK2 hrow2 hg1 hcs1 htake1 hlc1 hcm1 hX2 hX1 hX hv hgr1 hown0 hs1 hap hg hcs htake hN hel hlr hB hzl hb
  generalize hV : Value.slice (some ⟨g, 0, none⟩) N cap = V at *
  generalize hV0 : Value.slice (some ⟨g, 0, none⟩) i cap = V0 at *
  generalize hV1 : Value.slice (some ad) (N - (i + 1)) (cap - (i + 1)) = V1 at *
  generalize hV2 : Value.slice (some ⟨g, 0, none⟩) (N - 1) cap = V2 at *
  generalize hV3 : Value.slice (some ⟨g, (N - 1) * 1, none⟩) 1 (cap - (N - 1)) = V3 at *
  clear hV hV0 hV1 hV2 hV3
  have HB2 := Lib.hid hb2
  have HAP := Lib.hid hap'
  clear hb2 hap' hN1
  go_enter Try.func41, Try.ntmps41
  go_wp2
  go_region_law (refine step_append_run rfl _ _ 63 63 rfl _ _ rfl rfl HAP.out ?_)
  go_wp2
  go_ret
  exact ⟨_, rfl, HO.out, HK.out, HB2.out⟩

end Go.Proofs.Ytofhbnnheadmlaa
end
