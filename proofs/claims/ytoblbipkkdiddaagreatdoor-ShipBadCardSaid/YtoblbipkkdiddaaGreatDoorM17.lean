/- Rtake, Wf, OpenX, Open10, OpenN, Sha. -/
import Derived.Test.YtoblbipkkdiddaaGreatDoorM13
import Derived.Test.YtoblbipkkdiddaaGreatDoorM10
import Derived.Test.YtoblbipkkdiddaaGreatDoorM1
import Derived.Lib.SmallJoins
import Derived.ProofKit
import Derived.Test.YtoblbipkkdiddaaGreatDoorChecked
import Derived.Test.YtoblbipkkdiddaaGreatDoorM15
import Derived.Test.YtoblbipkkdiddaaGreatDoorM11
import Derived.Test.YtoblbipkkdiddaaGreatDoorM16
set_option linter.unusedVariables false
set_option linter.unusedSimpArgs false

section
namespace Go.Proofs.YtoblbipkkdiddaaGreatDoor
open Go.RowKit Go.Cor

theorem Tryz.sizePsT : (Tryz.prog.info? 67).map (·.size) = some 5 := by kernel_rfl
theorem drop_more {α : Type} (l : List α) {P i : Nat} (hP : P ≤ i) {a : α} (h : l[i]? = some a) : (l.take (i + 1)).drop P = (l.take i).drop P ++ [a] := by
  obtain ⟨hi, rfl⟩ := List.getElem?_eq_some_iff.1 h
  rw [List.take_succ_eq_append_getElem hi, List.drop_append_of_le_length (by rw [List.length_take]; omega)]
theorem drop_less {α : Type} (l : List α) {P i : Nat} (hP : i ≤ P) : (l.take i).drop P = [] := by
  rw [List.drop_eq_nil_iff, List.length_take]
  omega
set_option maxRecDepth 100000 in
set_option maxHeartbeats 4000000 in
theorem rtake_any (fr most : Nat) (S : Nat → Prop) (s : Vst) (lv dv : Value) (ps : List (Ndl × Value)) (w : World) (h : DocP w S s lv dv ps) (hm1 : 1 ≤ most) (hm : most ≤ 64) (hf : s.ns.length < 4096) :
    Calls Tryz.prog 14 #[dval s lv dv, .int .u64 (fr : Int), .int .i64 (most : Int)] w fun e w' =>
      ∃ (x : Option Addr) (qs : List (Ndl × Value)) (cap : Nat), e = .returned (.tuple #[.slice x qs.length cap, .bool (s.more fr most), .int .u64 (s.next fr most : Int)]) ∧ qs.map (·.1) = s.load fr most ∧ IsN w' (.slice x qs.length cap) qs ∧ Below w.heap.size w w' := by
  obtain ⟨lx, lc, rfl, _, _⟩ := IsX.slice h.l
  obtain ⟨dx, dc, rfl, _, _⟩ := IsX.slice h.d.1
  have hpl : ps.length = s.ns.length := by rw [← h.ns, List.length_map]
  have hIL := s.idx_len
  obtain ⟨I, hI⟩ : ∃ I, s.idx.length = I := ⟨_, rfl⟩
  obtain ⟨N, hN⟩ : ∃ N, ps.length = N := ⟨_, rfl⟩
  obtain ⟨P, hP⟩ : ∃ P, psn s.idx fr = P := ⟨_, rfl⟩
  have hPI : P ≤ I := by rw [← hP, ← hI]; exact psn_le _ _
  rw [hI, hN] at h ⊢
  have hI4 : I ≤ 4096 := by omega
  have HH := Lib.hid h
  have HI := Lib.hid hI
  have HP := Lib.hid hP
  have hNW := fun (key : Nat) w1 (hb : Below w.heap.size w w1) => newest_r key S s _ _ ps w1 (h.below hb) (by rw [hN]; omega)
  have HNW := Lib.hid hNW
  have hdb := below_alloc w (.cells #[.int .i64 (s.num : Int), .int .i64 (s.most : Int), .int .i64 (s.epoch : Int), .int .i64 (s.size : Int), .bool s.shut, .slice lx I lc, .slice dx N dc] 30)
  have hvb := Blk.new w #[.int .i64 (s.num : Int), .int .i64 (s.most : Int), .int .i64 (s.epoch : Int), .int .i64 (s.size : Int), .bool s.shut, .slice lx I lc, .slice dx N dc] 30
  obtain ⟨w1, hw1⟩ : ∃ w1, w.alloc (.cells #[.int .i64 (s.num : Int), .int .i64 (s.most : Int), .int .i64 (s.epoch : Int), .int .i64 (s.size : Int), .bool s.shut, .slice lx I lc, .slice dx N dc] 30) = w1 := ⟨_, rfl⟩
  rw [hw1] at hdb hvb
  have HB1 := Lib.hid hdb
  have HV1 := Lib.hid hvb
  have hlt1 : w.heap.size < w1.heap.size := hvb.lt
  clear hdb hvb hNW h hpl hN hIL hf hI hP
  have HFIN := Lib.hid (show ∀ i : Nat, i ≤ I → i - P ≤ most → P + most ≤ i ∨ i = I → (s.tops.take i).drop P = s.load fr most from fun i hi h1 h2 => by
    unfold Vst.load
    rw [HP.out, List.drop_take]
    rcases h2 with h2 | rfl
    · rw [show i - P = most by omega]
    · rw [List.take_of_length_le (by rw [List.length_drop, s.tops_len, HI.out]; omega), List.take_of_length_le (by rw [List.length_drop, s.tops_len, HI.out]; omega)])
  obtain ⟨i0, hi, hz0, hz1, hz2⟩ := info_parts Tryz.infoNdR
  have HIN := Lib.hid hi
  have HZ0 := Lib.hid hz0
  have HZ1 := Lib.hid hz1
  have HZ2 := Lib.hid hz2
  clear hi hz0 hz1 hz2
  go_enter Tryz.func14, Tryz.ntmps14
  go_wp2_with fail
  try rw [hw1]
  clear hw1
  go_loopw [9, 10] (fun a c wr => ∃ (i : Nat) (qs : List (Ndl × Value)) (x : Option Addr) (n cap : Nat), i ≤ I ∧ i - P ≤ most ∧ n = i - P ∧ a = .slice x n cap ∧ c = .int .i64 (i : Int) ∧ Hid (qs.map (·.1) = (s.tops.take i).drop P) ∧ Hid (∀ q ∈ qs, q ∈ ps) ∧ Hid (wr.ownsRow (w.heap.size + 1) 47 4 (.slice x n cap) n (row ncl qs)) ∧ Hid (qs.length = n) ∧ Hid (Below w.heap.size w wr) ∧ Hid (Blk wr w.heap.size #[.int .i64 (s.num : Int), .int .i64 (s.most : Int), .int .i64 (s.epoch : Int), .int .i64 (s.size : Int), .bool s.shut, .slice lx I lc, .slice dx N dc] 30)) (fun _ c _ => (I - intOf c).toNat)
  case atStart => exact ⟨0, [], none, 0, 0, Nat.zero_le _, by omega, by omega, rfl, rfl, Lib.hid (by simp), Lib.hid (fun q hq => by cases hq), Lib.hid (World.ownsRow_nil _ _ _ _), Lib.hid rfl, HB1, HV1⟩
  case round =>
    obtain ⟨i, qs, x, n, cap, hiI, him, hnq, rfl, rfl, HQ, HQP, HO, HQL, HB, HV⟩ := hrel
    clear HB1 HV1 hlt1
    have HNQ := Lib.hid hnq
    have HIM := Lib.hid him
    clear hnq him
    have v0 := HV.out.cell 0 rfl
    have v1 := HV.out.cell 1 rfl
    have v2 := HV.out.cell 2 rfl
    have v3 := HV.out.cell 3 rfl
    have v4 := HV.out.cell 4 rfl
    have v5 := HV.out.cell 5 rfl
    have v6 := HV.out.cell 6 rfl
    have e1 : IntKind.i64.wrap ((i : Int) + 1) = (i : Int) + 1 := IntWalk.i64_in _ (by omega)
    by_cases hi : i < I
    · obtain ⟨b, o, hidx, hp⟩ := Q.indexAt_P (P := Tryz.prog) (HH.out.l.mono HB.out (Nat.le_refl _)) 27 67 Tryz.underlying27 Tryz.sizePsT i (by rw [HI.out]; exact hi)
      have hget : s.idx[i]? = some (pat s.idx i) := get_pat (by rw [HI.out]; exact hi)
      obtain ⟨m, hm1', hm2, hm3, _⟩ := Vst.tops_get (s := s) (i := i) (by rw [HI.out]; exact hi)
      have hlo : i < P → (pat s.idx i).key < fr := fun hlt => psn_below hget (by rw [HP.out]; exact hlt)
      have hhi : P ≤ i → fr ≤ (pat s.idx i).key := fun hle => psn_above s.idx_asc hget (by rw [HP.out]; exact hle)
      have hnx : i = P + most → s.next fr most = (pat s.idx i).key ∧ s.more fr most = true := fun e => by
        unfold Vst.next Vst.more
        rw [HP.out, HI.out, if_pos (by omega), ← e]
        exact ⟨rfl, decide_eq_true (by omega)⟩
      obtain ⟨⟨pk, po, pl, pc, pg⟩, hpp⟩ : ∃ p, pat s.idx i = p := ⟨_, rfl⟩
      rw [hpp] at hp hlo hhi hnx hm3
      dsimp only at hlo hhi hnx hm3
      obtain ⟨c0, c1, c2, c3, c4⟩ := hp
      dsimp only at c0 c1 c2 c3 c4
      have HM := Lib.hid hm1'
      have HMN := Lib.hid (show newest s.ns pk = some m by rw [← hm3]; exact hm2)
      clear hpp hget hm1' hm2 hm3
      by_cases hlt : i < P
      · have hk := hlo hlt
        have hk' : (pk : Int) < (fr : Int) := by omega
        clear hlo hhi hnx
        have HD := Lib.hid (show qs.map (·.1) = (s.tops.take (i + 1)).drop P by rw [HQ.out, drop_less _ (by omega), drop_less _ (by omega)])
        go_wp2
        go_roundw
        case rel => exact ⟨i + 1, qs, x, n, cap, by omega, by have := HIM.out; omega, by have := HNQ.out; omega, rfl, by simp, HD, HQP, HO, HQL, HB, HV⟩
        case measure => simp [intOf] <;> omega
      · have hk := hhi (by omega)
        have hk' : ¬ (pk : Int) < (fr : Int) := by omega
        by_cases hful : n = most
        · have hx := hnx (by have := HNQ.out; have := HIM.out; omega)
          have HNX := Lib.hid hx
          have HL := Lib.hid (show qs.map (·.1) = s.load fr most by rw [HQ.out]; exact HFIN.out i (by omega) HIM.out (.inl (by have := HNQ.out; omega)))
          have HR := Lib.hid (show IsN wr (.slice x n cap) qs from ⟨by rw [HQL.out]; exact IsX.own HO.out, fun q hq => ⟨(HH.out.d.2 q (HQP.out q hq)).1.mono HB.out (Nat.le_refl _), (HH.out.d.2 q (HQP.out q hq)).2⟩⟩)
          have hful' : ((n : Int) == (most : Int)) = true := by simp [hful]
          clear hlo hhi hnx hx
          subst hful
          have HBQ := Lib.hid (fun n => below_drewN HB.out n)
          go_wp2
          go_quiet (fail)
          go_wp2
          exact bodyPost_ret (v := .tuple #[.slice x n cap, .bool true, .int .u64 (pk : Int)]) (by simp [results, Tryz.results14, go_sem]) rfl ⟨x, qs, cap, by rw [HQL.out, HNX.out.1, HNX.out.2], HL.out, by rw [HQL.out]; exact HR.out.mono (below_drewN (Below.refl _ wr) _) (Nat.le_refl _), HBQ.out _⟩
        · have hful' : ¬ (n : Int) = (most : Int) := by omega
          have hfulb : ((n : Int) == (most : Int)) = false := beq_eq_false_iff_ne.2 hful'
          clear hlo hhi hnx
          have hnI : n ≤ 64 := by have := HNQ.out; have := HIM.out; omega
          have HS8 := Lib.hid (show ∀ wx, Below wr.heap.size wr wx → (fun wx => (wx.cell? ⟨w.heap.size, 0, none⟩ = some (.int .i64 (s.num : Int)) ∧ wx.cell? ⟨w.heap.size, 1, none⟩ = some (.int .i64 (s.most : Int)) ∧ wx.cell? ⟨w.heap.size, 2, none⟩ = some (.int .i64 (s.epoch : Int)) ∧ wx.cell? ⟨w.heap.size, 3, none⟩ = some (.int .i64 (s.size : Int)) ∧ wx.cell? ⟨w.heap.size, 4, none⟩ = some (.bool s.shut) ∧ wx.cell? ⟨w.heap.size, 5, none⟩ = some (.slice lx I lc) ∧ wx.cell? ⟨w.heap.size, 6, none⟩ = some (.slice dx N dc)) ∧ wx.cell? ⟨b, o, none⟩ = some (.int .u64 (pk : Int))) wx from fun wx hb => by
            have h1 := HV.out.below hb HV.out.lt
            exact ⟨⟨h1.cell 0 rfl, h1.cell 1 rfl, h1.cell 2 rfl, h1.cell 3 rfl, h1.cell 4 rfl, h1.cell 5 rfl, h1.cell 6 rfl⟩, (Kept.of_below (S := fun _ => False) hb (Nat.le_refl _)).cell c0 (fun h => h)⟩)
          have HQ0 := Lib.hid ((Below.refl wr.heap.size wr).drew)
          go_upto_region 8 with fail
          clear v0 v1 v2 v3 v4 v5 v6 c0 c1 c2 c3 c4
          go_cut [11] from 39 to 49 (fun x11 wx => ∃ (X : Nat) (mx : Option Addr) (mL mc : Nat), x11 = .pointer (some ⟨X, 0, none⟩) ∧ wr.heap.size ≤ X ∧ Hid ((m, Value.slice mx mL mc) ∈ ps) ∧ Hid (Below wr.heap.size wr wx) ∧ Hid (Blk wx X #[.int .u64 (m.key : Int), .int .u32 (m.cookie : Int), .bool m.gone, .slice mx mL mc] 47))
          case first =>
            refine AnyE.start (S := (fun wx => (wx.cell? ⟨w.heap.size, 0, none⟩ = some (.int .i64 (s.num : Int)) ∧ wx.cell? ⟨w.heap.size, 1, none⟩ = some (.int .i64 (s.most : Int)) ∧ wx.cell? ⟨w.heap.size, 2, none⟩ = some (.int .i64 (s.epoch : Int)) ∧ wx.cell? ⟨w.heap.size, 3, none⟩ = some (.int .i64 (s.size : Int)) ∧ wx.cell? ⟨w.heap.size, 4, none⟩ = some (.bool s.shut) ∧ wx.cell? ⟨w.heap.size, 5, none⟩ = some (.slice lx I lc) ∧ wx.cell? ⟨w.heap.size, 6, none⟩ = some (.slice dx N dc)) ∧ wx.cell? ⟨b, o, none⟩ = some (.int .u64 (pk : Int)))) 13 (by kernel_rfl) (HS8.out _ HQ0.out) (fun hHeld => ?_)
            obtain ⟨q0, hq0⟩ : ∃ q0, wr.drew = q0 := ⟨_, rfl⟩
            rw [hq0] at HQ0 hHeld
            rw [hq0]
            clear hq0
            refine AnyE.take (i := 0) (v := ?_) rfl (by kernel_rfl) (by kernel_rfl) (by kernel_rfl) (by kernel_rfl) (fun _ _ _ h => h) (Or.inl ⟨by rfl, ?_⟩) (by assumption) ?_
            rotate_left 1
            · intro w hSw
              (try dsimp only at hSw)
              go_simp
              all_goals (with_reducible rfl)
            try simp only [Act.put, List.getElem_toArray, List.getElem_cons_zero, List.getElem_cons_succ, List.setIfInBounds_toArray, List.set_cons_zero, List.set_cons_succ]
            refine AnyE.take (i := 1) (v := ?_) rfl (by kernel_rfl) (by kernel_rfl) (by kernel_rfl) (by kernel_rfl) (fun _ _ _ h => h) (Or.inl ⟨by rfl, ?_⟩) (by assumption) ?_
            rotate_left 1
            · intro w hSw
              (try dsimp only at hSw)
              go_simp
              all_goals (with_reducible rfl)
            try simp only [Act.put, List.getElem_toArray, List.getElem_cons_zero, List.getElem_cons_succ, List.setIfInBounds_toArray, List.set_cons_zero, List.set_cons_succ]
            refine AnyE.take (i := 2) (v := ?_) rfl (by kernel_rfl) (by kernel_rfl) (by kernel_rfl) (by kernel_rfl) (fun _ _ _ h => h) (Or.inl ⟨by rfl, ?_⟩) (by assumption) ?_
            rotate_left 1
            · intro w hSw
              (try dsimp only at hSw)
              go_simp
              all_goals (with_reducible rfl)
            try simp only [Act.put, List.getElem_toArray, List.getElem_cons_zero, List.getElem_cons_succ, List.setIfInBounds_toArray, List.set_cons_zero, List.set_cons_succ]
            refine AnyE.take (i := 3) (v := ?_) rfl (by kernel_rfl) (by kernel_rfl) (by kernel_rfl) (by kernel_rfl) (fun _ _ _ h => h) (Or.inl ⟨by rfl, ?_⟩) (by assumption) ?_
            rotate_left 1
            · intro w hSw
              (try dsimp only at hSw)
              go_simp
              all_goals (with_reducible rfl)
            try simp only [Act.put, List.getElem_toArray, List.getElem_cons_zero, List.getElem_cons_succ, List.setIfInBounds_toArray, List.set_cons_zero, List.set_cons_succ]
            refine AnyE.take (i := 4) (v := ?_) rfl (by kernel_rfl) (by kernel_rfl) (by kernel_rfl) (by kernel_rfl) (fun _ _ _ h => h) (Or.inl ⟨by rfl, ?_⟩) (by assumption) ?_
            rotate_left 1
            · intro w hSw
              (try dsimp only at hSw)
              go_simp
              all_goals (with_reducible rfl)
            try simp only [Act.put, List.getElem_toArray, List.getElem_cons_zero, List.getElem_cons_succ, List.setIfInBounds_toArray, List.set_cons_zero, List.set_cons_succ]
            refine AnyE.take (i := 5) (v := ?_) rfl (by kernel_rfl) (by kernel_rfl) (by kernel_rfl) (by kernel_rfl) (fun _ _ _ h => h) (Or.inl ⟨by rfl, ?_⟩) (by assumption) ?_
            rotate_left 1
            · intro w hSw
              (try dsimp only at hSw)
              go_simp
              all_goals (with_reducible rfl)
            try simp only [Act.put, List.getElem_toArray, List.getElem_cons_zero, List.getElem_cons_succ, List.setIfInBounds_toArray, List.set_cons_zero, List.set_cons_succ]
            refine AnyE.take (i := 6) (v := ?_) rfl (by kernel_rfl) (by kernel_rfl) (by kernel_rfl) (by kernel_rfl) (fun _ _ _ h => h) (Or.inl ⟨by rfl, ?_⟩) (by assumption) ?_
            rotate_left 1
            · intro w hSw
              (try dsimp only at hSw)
              go_simp
              all_goals (with_reducible rfl)
            try simp only [Act.put, List.getElem_toArray, List.getElem_cons_zero, List.getElem_cons_succ, List.setIfInBounds_toArray, List.set_cons_zero, List.set_cons_succ]
            refine AnyE.next (rs := [7, 11]) (by kernel_rfl) (by simp) ?_
            refine AllE.cons rfl (fun K hK => ?_) ?_
            · go_simp
              refine (HNW.out pk _ (HB.out.trans (HQ0.out.mono HB.out.size))).mono ?_
              rintro e q1 ⟨m2, mx, mL, mc, rfl, hcase, hb2⟩
              rw [HMN.out] at hcase ⊢
              have hmo : m2 = m ∧ (m2, Value.slice mx mL mc) ∈ ps := by
                rcases hcase with h | h
                · exact ⟨by have := h.1; cases this; rfl, h.2⟩
                · exact absurd h.1 (by simp)
              obtain ⟨hmo, hmem⟩ := hmo
              subst hmo
              rw [Option.isSome_some]
              have HMEM := Lib.hid hmem
              have HQ1 := Lib.hid (HQ0.out.trans (hb2.mono HQ0.out.size))
              refine hK.out _ _ (HS8.out _ HQ1.out) (fun hHeld => ?_)
              clear hK K hcase hmem hb2
              try simp only [Act.put, List.getElem_toArray, List.getElem_cons_zero, List.getElem_cons_succ, List.setIfInBounds_toArray, List.set_cons_zero, List.set_cons_succ]
              refine AnyE.take (i := 8) (v := ?_) rfl (by kernel_rfl) (by kernel_rfl) (by kernel_rfl) (by kernel_rfl) (fun _ _ _ h => h) (Or.inl ⟨by rfl, ?_⟩) (by assumption) ?_
              rotate_left 1
              · intro w hSw
                (try dsimp only at hSw)
                go_simp
                all_goals (with_reducible rfl)
              try simp only [Act.put, List.getElem_toArray, List.getElem_cons_zero, List.getElem_cons_succ, List.setIfInBounds_toArray, List.set_cons_zero, List.set_cons_succ]
              refine AnyE.take (i := 9) (v := ?_) rfl (by kernel_rfl) (by kernel_rfl) (by kernel_rfl) (by kernel_rfl) (fun _ _ _ h => h) (Or.inl ⟨by rfl, ?_⟩) (by assumption) ?_
              rotate_left 1
              · intro w hSw
                (try dsimp only at hSw)
                go_simp
                all_goals (with_reducible rfl)
              try simp only [Act.put, List.getElem_toArray, List.getElem_cons_zero, List.getElem_cons_succ, List.setIfInBounds_toArray, List.set_cons_zero, List.set_cons_succ]
              refine AnyE.take (i := 10) (v := ?_) rfl (by kernel_rfl) (by kernel_rfl) (by kernel_rfl) (by kernel_rfl) (fun _ _ _ h => h) (Or.inl ⟨by rfl, ?_⟩) (by assumption) ?_
              rotate_left 1
              · intro w hSw
                (try dsimp only at hSw)
                go_simp
                all_goals (with_reducible rfl)
              try simp only [Act.put, List.getElem_toArray, List.getElem_cons_zero, List.getElem_cons_succ, List.setIfInBounds_toArray, List.set_cons_zero, List.set_cons_succ]
              refine AnyE.next (rs := [11]) (by kernel_rfl) (by simp) ?_
              refine AllE.cons rfl (fun K hK => ?_) AllE.nil
              go_simp
              refine hK.out _ _ (HS8.out _ (HQ1.out.alloc HQ1.out.size (.cells #[.int .u64 0, .int .u32 0, .bool false, .slice none 0 0] 47))) (fun hHeld => ?_)
              have HQ2 := Lib.hid (HQ1.out.alloc HQ1.out.size (.cells #[.int .u64 0, .int .u32 0, .bool false, .slice none 0 0] 47))
              have HXN := Lib.hid (Blk.new q1 #[.int .u64 0, .int .u32 0, .bool false, .slice none 0 0] 47)
              have GX := Lib.hid HQ1.out.size
              obtain ⟨q2, hq2⟩ : ∃ q2, q1.alloc (.cells #[.int .u64 0, .int .u32 0, .bool false, .slice none 0 0] 47) = q2 := ⟨_, rfl⟩
              rw [hq2] at HQ2 HXN hHeld
              rw [hq2]
              clear hK K hq2
              try simp only [Act.put, List.getElem_toArray, List.getElem_cons_zero, List.getElem_cons_succ, List.setIfInBounds_toArray, List.set_cons_zero, List.set_cons_succ]
              have z0 := HXN.out.cell 0 rfl
              have z1 := HXN.out.cell 1 rfl
              have z2 := HXN.out.cell 2 rfl
              have z3 := HXN.out.cell 3 rfl
              have zf := fun j => HXN.out.free j
              have XB := Lib.hid (blk_set4 HXN.out (.int .u64 (m2.key : Int)) (.int .u32 (m2.cookie : Int)) (.bool m2.gone) (.slice mx mL mc))
              have XW := Lib.hid (below_set4 (g := q1.heap.size) (u0 := .int .u64 (m2.key : Int)) (u1 := .int .u32 (m2.cookie : Int)) (u2 := .bool m2.gone) (u3 := .slice mx mL mc) HQ2.out GX.out)
              unfold set4 at XB XW
              refine AnyE.next (rs := [12]) (by kernel_rfl) (by simp) ?_
              refine AllE.cons rfl (fun K hK => ?_) AllE.nil
              go_simp
              refine hK.out _ _ (HS8.out _ XW.out) (fun hHeld => ?_)
              clear hK K
              try simp only [Act.put, List.getElem_toArray, List.getElem_cons_zero, List.getElem_cons_succ, List.setIfInBounds_toArray, List.set_cons_zero, List.set_cons_succ]
              clear z0 z1 z2 z3 zf
              refine AnyE.next (rs := [13]) (by kernel_rfl) (by simp) ?_
              refine AllE.last rfl (fun K hK => ?_)
              go_simp
              refine hK.out _ _ ?_
              clear hK K
              try simp only [Act.put, List.getElem_toArray, List.getElem_cons_zero, List.getElem_cons_succ, List.setIfInBounds_toArray, List.set_cons_zero, List.set_cons_succ]
              refine AnyE.done (by kernel_rfl) ?_ _
              go_wp2_with fail
              go_meet
              exact ⟨q1.heap.size, mx, mL, mc, by first | exact rfl | exact trivial, GX.out, HMEM, XW, XB⟩
            refine AllE.cons rfl (fun K hK => ?_) AllE.nil
            go_simp
            refine hK.out _ _ (HS8.out _ (HQ0.out.alloc HQ0.out.size (.cells #[.int .u64 0, .int .u32 0, .bool false, .slice none 0 0] 47))) (fun hHeld => ?_)
            have HQ1 := Lib.hid (HQ0.out.alloc HQ0.out.size (.cells #[.int .u64 0, .int .u32 0, .bool false, .slice none 0 0] 47))
            have HXN := Lib.hid (Blk.new q0 #[.int .u64 0, .int .u32 0, .bool false, .slice none 0 0] 47)
            have GX := Lib.hid HQ0.out.size
            obtain ⟨q1, hnw⟩ : ∃ nw, q0.alloc (.cells #[.int .u64 0, .int .u32 0, .bool false, .slice none 0 0] 47) = nw := ⟨_, rfl⟩
            rw [hnw] at HQ1 HXN hHeld
            rw [hnw]
            clear hK K hnw
            try simp only [Act.put, List.getElem_toArray, List.getElem_cons_zero, List.getElem_cons_succ, List.setIfInBounds_toArray, List.set_cons_zero, List.set_cons_succ]
            refine AnyE.next (rs := [7]) (by kernel_rfl) (by simp) ?_
            refine AllE.cons rfl (fun K hK => ?_) AllE.nil
            go_simp
            refine (HNW.out pk _ (HB.out.trans (HQ1.out.mono HB.out.size))).mono ?_
            rintro e q2 ⟨m2, mx, mL, mc, rfl, hcase, hb2⟩
            rw [HMN.out] at hcase ⊢
            have hmo : m2 = m ∧ (m2, Value.slice mx mL mc) ∈ ps := by
              rcases hcase with h | h
              · exact ⟨by have := h.1; cases this; rfl, h.2⟩
              · exact absurd h.1 (by simp)
            obtain ⟨hmo, hmem⟩ := hmo
            subst hmo
            rw [Option.isSome_some]
            have HMEM := Lib.hid hmem
            have HQ2 := Lib.hid (HQ1.out.trans (hb2.mono HQ1.out.size))
            have HXM := Lib.hid (HXN.out.below hb2 HXN.out.lt)
            refine hK.out _ _ (HS8.out _ HQ2.out) (fun hHeld => ?_)
            clear hK K hcase hmem hb2
            try simp only [Act.put, List.getElem_toArray, List.getElem_cons_zero, List.getElem_cons_succ, List.setIfInBounds_toArray, List.set_cons_zero, List.set_cons_succ]
            refine AnyE.take (i := 8) (v := ?_) rfl (by kernel_rfl) (by kernel_rfl) (by kernel_rfl) (by kernel_rfl) (fun _ _ _ h => h) (Or.inl ⟨by rfl, ?_⟩) (by assumption) ?_
            rotate_left 1
            · intro w hSw
              (try dsimp only at hSw)
              go_simp
              all_goals (with_reducible rfl)
            try simp only [Act.put, List.getElem_toArray, List.getElem_cons_zero, List.getElem_cons_succ, List.setIfInBounds_toArray, List.set_cons_zero, List.set_cons_succ]
            refine AnyE.take (i := 9) (v := ?_) rfl (by kernel_rfl) (by kernel_rfl) (by kernel_rfl) (by kernel_rfl) (fun _ _ _ h => h) (Or.inl ⟨by rfl, ?_⟩) (by assumption) ?_
            rotate_left 1
            · intro w hSw
              (try dsimp only at hSw)
              go_simp
              all_goals (with_reducible rfl)
            try simp only [Act.put, List.getElem_toArray, List.getElem_cons_zero, List.getElem_cons_succ, List.setIfInBounds_toArray, List.set_cons_zero, List.set_cons_succ]
            refine AnyE.take (i := 10) (v := ?_) rfl (by kernel_rfl) (by kernel_rfl) (by kernel_rfl) (by kernel_rfl) (fun _ _ _ h => h) (Or.inl ⟨by rfl, ?_⟩) (by assumption) ?_
            rotate_left 1
            · intro w hSw
              (try dsimp only at hSw)
              go_simp
              all_goals (with_reducible rfl)
            try simp only [Act.put, List.getElem_toArray, List.getElem_cons_zero, List.getElem_cons_succ, List.setIfInBounds_toArray, List.set_cons_zero, List.set_cons_succ]
            have z0 := HXM.out.cell 0 rfl
            have z1 := HXM.out.cell 1 rfl
            have z2 := HXM.out.cell 2 rfl
            have z3 := HXM.out.cell 3 rfl
            have zf := fun j => HXM.out.free j
            have XB := Lib.hid (blk_set4 HXM.out (.int .u64 (m2.key : Int)) (.int .u32 (m2.cookie : Int)) (.bool m2.gone) (.slice mx mL mc))
            have XW := Lib.hid (below_set4 (g := q0.heap.size) (u0 := .int .u64 (m2.key : Int)) (u1 := .int .u32 (m2.cookie : Int)) (u2 := .bool m2.gone) (u3 := .slice mx mL mc) HQ2.out GX.out)
            unfold set4 at XB XW
            refine AnyE.next (rs := [12]) (by kernel_rfl) (by simp) ?_
            refine AllE.cons rfl (fun K hK => ?_) AllE.nil
            go_simp
            refine hK.out _ _ (HS8.out _ XW.out) (fun hHeld => ?_)
            clear hK K
            try simp only [Act.put, List.getElem_toArray, List.getElem_cons_zero, List.getElem_cons_succ, List.setIfInBounds_toArray, List.set_cons_zero, List.set_cons_succ]
            clear z0 z1 z2 z3 zf
            refine AnyE.next (rs := [13]) (by kernel_rfl) (by simp) ?_
            refine AllE.last rfl (fun K hK => ?_)
            go_simp
            refine hK.out _ _ ?_
            clear hK K
            try simp only [Act.put, List.getElem_toArray, List.getElem_cons_zero, List.getElem_cons_succ, List.setIfInBounds_toArray, List.set_cons_zero, List.set_cons_succ]
            refine AnyE.done (by kernel_rfl) ?_ _
            go_wp2_with fail
            go_meet
            exact ⟨q0.heap.size, mx, mL, mc, by first | exact rfl | exact trivial, GX.out, HMEM, XW, XB⟩
          case rest =>
            obtain ⟨X, mx, mL, mc, rfl, hXr, HMEM, HBw, HXB⟩ := hcut
            obtain ⟨mk, mck, mg, md⟩ := m
            simp only at HXB
            have HB3 := Lib.hid (HB.out.trans (HBw.out.mono HB.out.size))
            have HO3 := Lib.hid (ownsRow_below HO.out HBw.out (Nat.le_refl _))
            have HV3 := Lib.hid (HV.out.below HBw.out HV.out.lt)
            have n0 := HXB.out.cell 0 rfl
            have n1 := HXB.out.cell 1 rfl
            have n2 := HXB.out.cell 2 rfl
            have n3 := HXB.out.cell 3 rfl
            obtain ⟨w3, hw3⟩ : ∃ w3, w3 = wc := ⟨_, rfl⟩
            subst hw3
            go_wp2_with (at_builtin; (refine wpList_append_X (by rfl) _ _ 28 28 rfl (fun _ _ _ => rfl) (w.heap.size + 1) 47 i0 _ 4 40 Tryz.underlying28 HIN.out HZ0.out HZ1.out HZ2.out rfl (by decide) _ (row ncl qs) n rfl (HO3.out.alloc _) _ 1 _ rfl (IsX.lit w3 #[.int .u64 (mk : Int), .int .u32 (mck : Int), .bool mg, .slice mx mL mc] 47 4 1 rfl (by decide)) (by intro u hu; simp only [List.mem_cons, List.not_mem_nil, or_false] at hu; rcases hu with rfl | rfl | rfl | rfl <;> rfl) (by unfold maxLen; omega) (by omega) (by have := HB3.out.size; simp; omega) ?_))
            intro v4 w4 hown4 hgr4 hat4
            obtain ⟨x4, z4, rfl, _, _⟩ := ownsRow_slice hown4
            have HO4 := Lib.hid (show w4.ownsRow (w.heap.size + 1) 47 4 (.slice x4 (n + 1) z4) (n + 1) (row ncl (qs ++ [(⟨mk, mck, mg, md⟩, .slice mx mL mc)])) by rw [row_append, row_one]; exact hown4)
            have HB4 := Lib.hid (show Below w.heap.size w w4 from (HB3.out.alloc HB3.out.size _).grown hgr4 (by have := HB3.out.size; simp; omega) (fun k hk => by have := (HO3.out.lt k hk).1; omega))
            have HV4 := Lib.hid (show Blk w4 w.heap.size #[.int .i64 (s.num : Int), .int .i64 (s.most : Int), .int .i64 (s.epoch : Int), .int .i64 (s.size : Int), .bool s.shut, .slice lx I lc, .slice dx N dc] 30 from (HV3.out.alloc _).grown hgr4 (fun e => by have := (HO3.out.lt _ e).1; omega))
            have HD4 := Lib.hid (show (qs ++ [((⟨mk, mck, mg, md⟩ : Ndl), Value.slice mx mL mc)]).map (·.1) = (s.tops.take (i + 1)).drop P by rw [List.map_append, HQ.out, drop_more _ (by omega) HM.out]; rfl)
            have HQP4 := Lib.hid (show ∀ q ∈ qs ++ [((⟨mk, mck, mg, md⟩ : Ndl), Value.slice mx mL mc)], q ∈ ps from fun q hq => by
              rcases List.mem_append.1 hq with hq | hq
              · exact HQP.out q hq
              · rw [List.mem_singleton.1 hq]; exact HMEM.out)
            have HQL4 := Lib.hid (show (qs ++ [((⟨mk, mck, mg, md⟩ : Ndl), Value.slice mx mL mc)]).length = n + 1 by rw [List.length_append, HQL.out]; rfl)
            clear hown4 hgr4 hat4 n0 n1 n2 n3
            go_wp2
            go_roundw
            case rel => exact ⟨i + 1, _, x4, n + 1, z4, by omega, by have := HNQ.out; have := HIM.out; omega, by have := HNQ.out; omega, rfl, by simp, HD4, HQP4, HO4, HQL4, HB4, HV4⟩
            case measure => simp [intOf] <;> omega
    · obtain rfl : I = i := by omega
      have HL := Lib.hid (show qs.map (·.1) = s.load fr most by rw [HQ.out]; exact HFIN.out I (Nat.le_refl _) HIM.out (.inr rfl))
      have HR := Lib.hid (show IsN wr (.slice x n cap) qs from ⟨by rw [HQL.out]; exact IsX.own HO.out, fun q hq => ⟨(HH.out.d.2 q (HQP.out q hq)).1.mono HB.out (Nat.le_refl _), (HH.out.d.2 q (HQP.out q hq)).2⟩⟩)
      have HNX := Lib.hid (show s.next fr most = 0 ∧ s.more fr most = false by
        unfold Vst.next Vst.more
        rw [HP.out, HI.out, if_neg (by have := HIM.out; omega)]
        exact ⟨rfl, decide_eq_false (by have := HIM.out; omega)⟩)
      go_wp2
      exact bodyPost_ret (v := .tuple #[.slice x n cap, .bool false, .int .u64 0]) (by simp [results, Tryz.results14, go_sem]) rfl ⟨x, qs, cap, by rw [HQL.out, HNX.out.1, HNX.out.2]; rfl, HL.out, by rw [HQL.out]; exact HR.out, HB.out⟩

end Go.Proofs.YtoblbipkkdiddaaGreatDoor
end

section
namespace Go.Cor
open Go.RowKit

theorem wf_u16 {a : Int} (h : (Lit.int .u16 a).wf = true) : 0 ≤ a ∧ a < 65536 := by
  have : 0 ≤ a ∧ a ≤ 65535 := by simpa [Lit.wf, IntKind.min, IntKind.max, IntKind.bits, IntKind.signed] using h
  omega
theorem wf_u32 {a : Int} (h : (Lit.int .u32 a).wf = true) : 0 ≤ a ∧ a < 4294967296 := by
  have : 0 ≤ a ∧ a ≤ 4294967295 := by simpa [Lit.wf, IntKind.min, IntKind.max, IntKind.bits, IntKind.signed] using h
  omega
theorem wf_u64 {a : Int} (h : (Lit.int .u64 a).wf = true) : 0 ≤ a ∧ a < 18446744073709551616 := by
  have : 0 ≤ a ∧ a ≤ 18446744073709551615 := by simpa [Lit.wf, IntKind.min, IntKind.max, IntKind.bits, IntKind.signed] using h
  omega
theorem wf_u8 {a : Int} (h : (Lit.int .u8 a).wf = true) : 0 ≤ a ∧ a < 256 := by
  have : 0 ≤ a ∧ a ≤ 255 := by simpa [Lit.wf, IntKind.min, IntKind.max, IntKind.bits, IntKind.signed] using h
  omega

theorem isB_of_row {w : World} {a : Option Addr} {len cap : Nat} {zs : List Int}
    (h : (a = none ∧ len = 0 ∧ cap = 0 ∧ zs = []) ∨
      ∃ x, a = some x ∧ len ≤ cap ∧ cap ≤ maxLen ∧ zs.length = cap ∧ (∀ i, i < zs.length → w.cell? (x.add i) = some (.int .u8 (zs.getD i 0))) ∧ ∀ n ∈ zs, (Lit.int .u8 n).wf = true) :
    ∃ l : List UInt8, l.length = len ∧ IsB w (.slice a len cap) l := by
  rcases h with ⟨rfl, rfl, rfl, rfl⟩ | ⟨x, rfl, hl, hm, hz, hcell, hwz⟩
  · exact ⟨[], rfl, IsB.nil w⟩
  · have hlen : ((zs.take len).map fun z => UInt8.ofNat z.toNat).length = len := by simp; omega
    refine ⟨(zs.take len).map fun z => UInt8.ofNat z.toNat, hlen, some x, cap, by rw [hlen], by omega, hm, by simp, ?_⟩
    by_cases h0 : len = 0
    · subst h0
      exact .inl (by simp)
    · obtain ⟨b, off, spot⟩ := x
      have hc := hcell 0 (by omega)
      have hspot : spot = none := by simpa [Addr.add] using World.cell?_spot hc
      subst hspot
      refine .inr ⟨b, off, rfl, fun i hi => ?_⟩
      rw [hlen] at hi
      have h1 := hcell i (by omega)
      have hadd : (⟨b, off, none⟩ : Addr).add i = ⟨b, off + i, none⟩ := by unfold Addr.add; split <;> simp_all
      rw [hadd] at h1
      rw [h1]
      have hwf := hwz (zs.getD i 0) (by rw [List.getD_eq_getElem?_getD, List.getElem?_eq_getElem (by omega)]; simp)
      have hb : 0 ≤ zs.getD i 0 ∧ zs.getD i 0 ≤ 255 := by simpa [Lit.wf, IntKind.min, IntKind.max, IntKind.bits, IntKind.signed] using hwf
      have e : ((zs.take len).map fun z => UInt8.ofNat z.toNat).getD i 0 = UInt8.ofNat (zs.getD i 0).toNat := by
        simp only [List.getD_eq_getElem?_getD, List.getElem?_map, List.getElem?_take, if_pos hi]
        rw [List.getElem?_eq_getElem (by omega)]
        simp
      rw [e]
      show some (Value.int .u8 (zs.getD i 0)) = some (.int .u8 (((UInt8.ofNat (zs.getD i 0).toNat).toNat : Nat) : Int))
      rw [UInt8.toNat_ofNat']
      congr 2
      omega

end Go.Cor
end

section
namespace Go.Cor
open Go.RowKit Go.ChangeShapes Go.WideShapes Go.Joins Go.Deep
variable {H : Type} {enc : TypeId × Value → H} {W : World} {P : Program}

theorem list_of {α : Type} {Q : Nat → α → Prop} (n : Nat) (h : ∀ i, i < n → ∃ x, Q i x) : ∃ l : List α, l.length = n ∧ ∀ i x, l[i]? = some x → Q i x := by
  induction n with
  | zero => exact ⟨[], rfl, fun i x h => by simp at h⟩
  | succ k ih =>
    obtain ⟨l, hlen, hl⟩ := ih (fun i hi => h i (by omega))
    obtain ⟨x, hx⟩ := h k (by omega)
    refine ⟨l ++ [x], by simp [hlen], fun i y hi => ?_⟩
    by_cases hik : i < k
    · rw [List.getElem?_append_left (by omega)] at hi
      exact hl i y hi
    · have hlt := (List.getElem?_eq_some_iff.1 hi).1
      simp [hlen] at hlt
      obtain rfl : i = k := by omega
      rw [List.getElem?_append_right (by omega), hlen] at hi
      simp at hi
      subst hi
      exact hx

theorem rows_of_trod {α : Type} {size : Nat} {T U : TypeId} (en : α → List Value) (good : α → Prop) (hT : P.underlying T = some (.slice U)) (hC : P.cellsOf U = size) (hs : 0 < size) (hen : ∀ x, (en x).length = size)
    (el : ∀ fuel cs y, DataW.trod enc P W 0 (fun _ => true) true fuel U cs = some y → ∃ x, cs = en x ∧ good x)
    {fuel : Nat} {c : Value} {y : DataW H × List MemPlace} (h : DataW.trod enc P W 0 (fun _ => true) true fuel T [c] = some y) :
    ∃ l : List α, IsX W size c l.length (row en l) ∧ ∀ x ∈ l, good x := by
  rcases open_slice hT h with ⟨hcs, _⟩ | ⟨x, len, cap, m, k, D, Pl, hcs, _, hl, hm, hmm, _, hi⟩
  · simp only [List.cons.injEq, and_true] at hcs
    subst hcs
    exact ⟨[], IsX.nil _ _, fun x hx => by cases hx⟩
  · simp only [List.cons.injEq, and_true] at hcs
    subst hcs
    have hml : len ≤ m := by simp at hmm; omega
    obtain ⟨b, off, spot⟩ := x
    have each : ∀ i, i < len → ∃ z : α, good z ∧ ∀ j, j < size → W.cell? (((⟨b, off, spot⟩ : Addr).add (i * size)).add j) = (en z)[j]? := fun i hil => by
      obtain ⟨cs', hc, ht⟩ := hi i (by omega)
      rw [hC] at hc
      obtain ⟨_, hcl, hat⟩ := World.cells?_some hc
      obtain ⟨z, rfl, hz⟩ := el _ _ _ ht
      exact ⟨z, hz, hat⟩
    obtain ⟨l, hlen, hl'⟩ := list_of len each
    refine ⟨l, ⟨some ⟨b, off, spot⟩, cap, by rw [hlen], by omega, hm, length_row hen l, (fun h => by cases h), ?_⟩, fun z hz => ?_⟩
    · by_cases h0 : len = 0
      · exact .inl (by omega)
      · have hspot : spot = none := by
          obtain ⟨z, _, hat⟩ := each 0 (by omega)
          have h1 : (en z)[0]? = some ((en z)[0]'(by rw [hen]; exact hs)) := List.getElem?_eq_getElem _
          have := World.cell?_spot ((hat 0 hs).trans h1)
          simpa [Addr.add] using this
        subst hspot
        simp only [add_lit] at hl'
        refine .inr ⟨b, off, rfl, fun j hj => ?_⟩
        rw [hlen] at hj
        have hq : j / size < len := Nat.div_lt_of_lt_mul (by rw [Nat.mul_comm]; exact hj)
        have hz := List.getElem?_eq_getElem (l := l) (i := j / size) (by omega)
        obtain ⟨_, hc⟩ := hl' _ _ hz
        have hm2 := Nat.mod_lt j hs
        have e : j = j / size * size + j % size := by rw [Nat.mul_comm]; exact (Nat.div_add_mod j size).symm
        have h1 := hc (j % size) hm2
        have h2 := row_get hen hz (j % size) hm2
        rw [← e] at h2
        rw [h2, ← h1]
        congr 2
        omega
    · obtain ⟨i, hi'⟩ := List.getElem?_of_mem hz
      exact (hl' i z hi').1

end Go.Cor
end

section
namespace Go.Proofs.YtoblbipkkdiddaaGreatDoor
open Go.RowKit Go.Cor Go.ChangeShapes Go.WideShapes Go.Joins Go.Deep
variable {H : Type} {enc : TypeId × Value → H} {W : World}

theorem isB_of_trod {fuel : Nat} {c : Value} {y : DataW H × List MemPlace} (h : DataW.trod enc Tryz.prog W 0 (fun _ => true) true fuel 45 [c] = some y) : ∃ l : List UInt8, IsB W c l := by
  rcases open_ints Tryz.underlying45 Tryz.underlying5 (by kernel_rfl) h with ⟨hcs, _⟩ | ⟨x, l, c', zs, hcs, _, hl, hm, hz, _, hcell, hwz⟩
  · simp only [List.cons.injEq, and_true] at hcs
    subst hcs
    exact ⟨[], IsB.nil _⟩
  · simp only [List.cons.injEq, and_true] at hcs
    subst hcs
    obtain ⟨l', e, h'⟩ := isB_of_row (w := W) (a := some x) (len := l) (cap := c') (zs := zs) (.inr ⟨x, rfl, hl, hm, by simpa using hz, hcell, hwz⟩)
    exact ⟨l', h'⟩
theorem Tryz.coI9 : Tryz.prog.cellsOf 3 = 1 := by kernel_rfl
theorem Tryz.coK9 : Tryz.prog.cellsOf 23 = 1 := by kernel_rfl
theorem Tryz.coC9 : Tryz.prog.cellsOf 44 = 1 := by kernel_rfl
theorem Tryz.coG9 : Tryz.prog.cellsOf 4 = 1 := by kernel_rfl
theorem Tryz.coD9 : Tryz.prog.cellsOf 45 = 1 := by kernel_rfl
theorem Tryz.coN9 : Tryz.prog.cellsOf 47 = 4 := by kernel_rfl
theorem Tryz.coA9 : Tryz.prog.cellsOf 86 = 6 := by kernel_rfl
theorem list6 {α : Type} {l : List α} (h : l.length = 6) : ∃ a b c d e f, l = [a, b, c, d, e, f] := by
  match l, h with
  | [a, b, c, d, e, f], _ => exact ⟨a, b, c, d, e, f, rfl⟩
theorem trod_s3 {P : Program} {t : TypeId} {f0 f1 f2 : Field} {fuel : Nat} {cs : List Value} {x : DataW H × List MemPlace} (ht : P.underlying t = some (.struct #[f0, f1, f2])) (h : DataW.trod enc P W 0 (fun _ => true) true fuel t cs = some x) :
    ∃ y0 y1 y2 n, cs.length = P.cellsOf t ∧ DataW.trod enc P W 0 (fun _ => true) true n f0.type ((cs.drop f0.offset).take (P.cellsOf f0.type)) = some y0 ∧ DataW.trod enc P W 0 (fun _ => true) true n f1.type ((cs.drop f1.offset).take (P.cellsOf f1.type)) = some y1 ∧ DataW.trod enc P W 0 (fun _ => true) true n f2.type ((cs.drop f2.offset).take (P.cellsOf f2.type)) = some y2 := by
  obtain ⟨xs, n, _, _, hl, hlen, hf⟩ := DataW.trod_struct ht h
  match xs, hlen with
  | [y0, y1, y2], _ => exact ⟨y0, y1, y2, n, hl, by simpa using hf 0 f0 rfl, by simpa using hf 1 f1 rfl, by simpa using hf 2 f2 rfl⟩
theorem trod_s4 {P : Program} {t : TypeId} {f0 f1 f2 f3 : Field} {fuel : Nat} {cs : List Value} {x : DataW H × List MemPlace} (ht : P.underlying t = some (.struct #[f0, f1, f2, f3])) (h : DataW.trod enc P W 0 (fun _ => true) true fuel t cs = some x) :
    ∃ y0 y1 y2 y3 n, cs.length = P.cellsOf t ∧ DataW.trod enc P W 0 (fun _ => true) true n f0.type ((cs.drop f0.offset).take (P.cellsOf f0.type)) = some y0 ∧ DataW.trod enc P W 0 (fun _ => true) true n f1.type ((cs.drop f1.offset).take (P.cellsOf f1.type)) = some y1 ∧ DataW.trod enc P W 0 (fun _ => true) true n f2.type ((cs.drop f2.offset).take (P.cellsOf f2.type)) = some y2 ∧ DataW.trod enc P W 0 (fun _ => true) true n f3.type ((cs.drop f3.offset).take (P.cellsOf f3.type)) = some y3 := by
  obtain ⟨xs, n, _, _, hl, hlen, hf⟩ := DataW.trod_struct ht h
  match xs, hlen with
  | [y0, y1, y2, y3], _ => exact ⟨y0, y1, y2, y3, n, hl, by simpa using hf 0 f0 rfl, by simpa using hf 1 f1 rfl, by simpa using hf 2 f2 rfl, by simpa using hf 3 f3 rfl⟩
set_option maxRecDepth 10000 in
theorem act9_of_trod (fuel : Nat) (cs : List Value) (y : DataW H × List MemPlace) (h : DataW.trod enc Tryz.prog W 0 (fun _ => true) true fuel 86 cs = some y) : ∃ x : A9v, cs = acl x ∧ (IsB W x.2 x.1.n.data ∧ x.2.oneCell' = true) ∧ x.1.n.fits := by
  obtain ⟨y0, y1, y2, n, hl, h0, h1, h2⟩ := trod_s3 Tryz.underlying86 h
  rw [Tryz.coA9] at hl
  obtain ⟨c0, c1, c2, c3, c4, c5, rfl⟩ := list6 hl
  simp only [Tryz.coI9, Tryz.coN9, List.drop_zero, List.drop_succ_cons, List.take_succ_cons, List.take_zero] at h0 h1 h2
  obtain ⟨z0, z1, z2, z3, n2, _, g0, g1, g2, g3⟩ := trod_s4 Tryz.underlying47 h2
  simp only [Tryz.coK9, Tryz.coC9, Tryz.coG9, Tryz.coD9, List.drop_zero, List.drop_succ_cons, List.take_succ_cons, List.take_zero] at g0 g1 g2 g3
  obtain ⟨a0, e0, _, w0⟩ := DataW.trod_int Tryz.underlying3 h0
  obtain ⟨a1, e1, _, w1⟩ := DataW.trod_int Tryz.underlying3 h1
  obtain ⟨a2, e2, _, w2⟩ := DataW.trod_int Tryz.underlying23 g0
  obtain ⟨a3, e3, _, w3⟩ := DataW.trod_int Tryz.underlying44 g1
  obtain ⟨a4, e4, _⟩ := DataW.trod_bool Tryz.underlying4 g2
  obtain ⟨b, hb⟩ := isB_of_trod g3
  simp only [List.cons.injEq, and_true] at e0 e1 e2 e3 e4
  subst e0 e1 e2 e3 e4
  have b2 := wf_u64 w2
  have b3 := wf_u32 w3
  obtain ⟨k, rfl⟩ := Int.eq_ofNat_of_zero_le b2.1
  obtain ⟨c, rfl⟩ := Int.eq_ofNat_of_zero_le b3.1
  refine ⟨(⟨a0, a1, ⟨k, c, a4, b⟩⟩, c5), rfl, ⟨hb, ?_⟩, ⟨by show k < 18446744073709551616; omega, by show c < 4294967296; omega⟩⟩
  obtain ⟨x, cap, rfl, _⟩ := hb
  rfl
theorem acts9_of_trod {fuel : Nat} {c : Value} {y : DataW H × List MemPlace} (h : DataW.trod enc Tryz.prog W 0 (fun _ => true) true fuel 22 [c] = some y) : ∃ l : List A9v, IsA W c l ∧ ∀ x ∈ l, x.1.n.fits := by
  obtain ⟨l, h1, h2⟩ := rows_of_trod acl (fun x => (IsB W x.2 x.1.n.data ∧ x.2.oneCell' = true) ∧ x.1.n.fits) Tryz.underlying22 Tryz.coA9 (by decide) acl_len act9_of_trod h
  exact ⟨l, ⟨h1, fun x hx => (h2 x hx).1⟩, fun x hx => (h2 x hx).2⟩

end Go.Proofs.YtoblbipkkdiddaaGreatDoor
end

section
namespace Go.Proofs.YtoblbipkkdiddaaGreatDoor
open Go.RowKit Go.Cor Go.ChangeShapes Go.WideShapes Go.Joins Go.Deep
variable {H : Type} {enc : TypeId × Value → H} {W : World}

theorem list4 {α : Type} {l : List α} (h : l.length = 4) : ∃ a b c d, l = [a, b, c, d] := by
  match l, h with
  | [a, b, c, d], _ => exact ⟨a, b, c, d, rfl⟩
set_option maxRecDepth 10000 in
theorem ndl_of_trod (fuel : Nat) (cs : List Value) (y : DataW H × List MemPlace) (h : DataW.trod enc Tryz.prog W 0 (fun _ => true) true fuel 47 cs = some y) : ∃ x : Ndl × Value, cs = ncl x ∧ (IsB W x.2 x.1.data ∧ x.2.oneCell' = true) ∧ x.1.fits := by
  obtain ⟨z0, z1, z2, z3, n2, hl, g0, g1, g2, g3⟩ := trod_s4 Tryz.underlying47 h
  rw [Tryz.coN9] at hl
  obtain ⟨c0, c1, c2, c3, rfl⟩ := list4 hl
  simp only [Tryz.coK9, Tryz.coC9, Tryz.coG9, Tryz.coD9, List.drop_zero, List.drop_succ_cons, List.take_succ_cons, List.take_zero] at g0 g1 g2 g3
  obtain ⟨a2, e2, _, w2⟩ := DataW.trod_int Tryz.underlying23 g0
  obtain ⟨a3, e3, _, w3⟩ := DataW.trod_int Tryz.underlying44 g1
  obtain ⟨a4, e4, _⟩ := DataW.trod_bool Tryz.underlying4 g2
  obtain ⟨b, hb⟩ := isB_of_trod g3
  simp only [List.cons.injEq, and_true] at e2 e3 e4
  subst e2 e3 e4
  have b2 := wf_u64 w2
  have b3 := wf_u32 w3
  obtain ⟨k, rfl⟩ := Int.eq_ofNat_of_zero_le b2.1
  obtain ⟨c, rfl⟩ := Int.eq_ofNat_of_zero_le b3.1
  refine ⟨(⟨k, c, a4, b⟩, c3), rfl, ⟨hb, ?_⟩, ⟨by show k < 18446744073709551616; omega, by show c < 4294967296; omega⟩⟩
  obtain ⟨x, cap, rfl, _⟩ := hb
  rfl
theorem ndls_of_trod {fuel : Nat} {c : Value} {y : DataW H × List MemPlace} (h : DataW.trod enc Tryz.prog W 0 (fun _ => true) true fuel 28 [c] = some y) : ∃ l : List (Ndl × Value), IsN W c l ∧ ∀ x ∈ l, x.1.fits := by
  obtain ⟨l, h1, h2⟩ := rows_of_trod ncl (fun x => (IsB W x.2 x.1.data ∧ x.2.oneCell' = true) ∧ x.1.fits) Tryz.underlying28 Tryz.coN9 (by decide) ncl_len ndl_of_trod h
  exact ⟨l, ⟨h1, fun x hx => (h2 x hx).1⟩, fun x hx => (h2 x hx).2⟩
def bcl (b : Bool) : List Value := [.bool b]
theorem bcl_len (b : Bool) : (bcl b).length = 1 := rfl
theorem bool_of_trod (fuel : Nat) (cs : List Value) (y : DataW H × List MemPlace) (h : DataW.trod enc Tryz.prog W 0 (fun _ => true) true fuel 4 cs = some y) : ∃ x : Bool, cs = bcl x ∧ True := by
  obtain ⟨a4, e4, _⟩ := DataW.trod_bool Tryz.underlying4 h
  exact ⟨a4, e4, trivial⟩
theorem bools_of_trod {fuel : Nat} {c : Value} {y : DataW H × List MemPlace} (h : DataW.trod enc Tryz.prog W 0 (fun _ => true) true fuel 72 [c] = some y) : ∃ l : List Bool, IsX W 1 c l.length (row bcl l) := by
  obtain ⟨l, h1, _⟩ := rows_of_trod bcl (fun _ => True) Tryz.underlying72 Tryz.coG9 (by decide) bcl_len bool_of_trod h
  exact ⟨l, h1⟩

end Go.Proofs.YtoblbipkkdiddaaGreatDoor
end

section
namespace Go.Proofs.YtoblbipkkdiddaaGreatDoor
open Go.RowKit Go.Cor

theorem far_long (v : Value) (l : List A9v) (w : World) (h : IsA w v l) (hl : 60 < l.length) :
    Calls Tryz.prog 10 #[v] w fun e w' => e = .returned (.bool true) ∧ w = w' := by
  have hlen := fun W => len_X (P := Tryz.prog) h.1 22 3 _ Tryz.underlying22 W
  obtain ⟨N, hN⟩ : ∃ N, l.length = N := ⟨_, rfl⟩
  rw [hN] at hlen hl
  have h60' : (60 : Int) < (N : Int) := by omega
  clear h hN hl
  go_enter Tryz.func10, Tryz.ntmps10
  go_wp2
  go_ret
  exact ⟨rfl, rfl⟩
theorem far_few {l : List A9v} (h : farA (l.map (·.1)) = false) : l.length ≤ 60 ∧ ∀ x ∈ l, x.1.n.data.length ≤ 300 := by
  unfold farA at h
  rw [Bool.or_eq_false_iff] at h
  refine ⟨by have := h.1; simpa using this, fun x hx => ?_⟩
  have h2 := h.2
  rw [List.any_eq_false] at h2
  have := h2 x.1 (List.mem_map.2 ⟨x, hx, rfl⟩)
  simpa using this
/-- Far, of any acts. -/
theorem far_w (v : Value) (l : List A9v) (w : World) (h : IsA w v l) :
    Calls Tryz.prog 10 #[v] w fun e w' => e = .returned (.bool (farA (l.map (·.1)))) ∧ w = w' := by
  by_cases hl : 60 < l.length
  · rw [show farA (l.map (·.1)) = true by unfold farA; rw [List.length_map, decide_eq_true hl]; rfl]
    exact far_long v l w h hl
  · exact far_any v l w h (by omega)

set_option maxRecDepth 100000 in
set_option maxHeartbeats 4000000 in
theorem alive13 (w : World) :
    Calls Tryz.prog 9 #[] w fun e w' => e = .returned (.bool true) ∧ Below w.heap.size w w' := by
  have HM := Lib.hid (made_any 1 1000 (by decide) (by decide) (by decide) (by decide) (.slice none 0 0) [] w ⟨IsX.nil _ _, fun x hx => by cases hx⟩ (by decide) (fun x hx => by cases hx) (fun x hx => by cases hx))
  go_enter Tryz.func9, Tryz.ntmps9
  go_wp2_with fail
  refine HM.out.mono ?_
  rintro e w1 ⟨g, p, S, d, k, s, lv, dv, ps, rfl, hr, hdoc, hb, hS, hm⟩
  obtain ⟨lx, lc, rfl, _, _⟩ := IsX.slice hdoc.l
  obtain ⟨dx, dc, rfl, _, _⟩ := IsX.slice hdoc.d.1
  have hI0 : s.idx.length = 0 := by have h1 := hm.ns; have := s.idx_len; simp only [List.length_nil] at h1; omega
  obtain ⟨I, hI⟩ : ∃ I, s.idx.length = I := ⟨_, rfl⟩
  obtain ⟨N, hN⟩ : ∃ N, ps.length = N := ⟨_, rfl⟩
  have hld : s.load 0 5 = [] ∧ s.more 0 5 = false ∧ s.next 0 5 = 0 := by
    have h1 := s.load_all (most := 5) (by omega)
    refine ⟨by rw [h1.1]; exact List.eq_nil_of_length_eq_zero (by rw [s.tops_len]; exact hI0), h1.2, ?_⟩
    unfold Vst.next
    rw [if_neg (by omega)]
  rw [hI, hN]
  have HR := Lib.hid hr
  have HB := Lib.hid hb
  have HLD := Lib.hid hld
  clear hr hdoc hb hS hm hI hN HM hI0 hld
  go_wp2_with fail
  have HB2 := Lib.hid (HB.out.alloc HB.out.size (.cells #[.int .i64 (s.num : Int), .int .i64 (s.most : Int), .int .i64 (s.epoch : Int), .int .i64 (s.size : Int), .bool s.shut, .slice lx I lc, .slice dx N dc] 30))
  refine (take_v 0 5 g p k S d s _ (HR.out.below (below_alloc w1 _)) (by decide) (by decide)).mono ?_
  rintro e w3 ⟨x, c, qs, rfl, hq, hqs, _, _, hb3⟩
  have hq0 : qs.length = 0 := by
    have := congrArg List.length hq
    rw [HLD.out.1] at this
    simpa using this
  rw [hq0, HLD.out.2.1, HLD.out.2.2]
  have HB3 := Lib.hid (HB2.out.trans (hb3.mono HB2.out.size))
  clear hb3 hq hqs hq0 HLD
  go_wp2_with fail
  have hx3 := Blk.new w3 #[.slice x 0 c, .int .u64 0, .bool false, .int .i64 0] 35
  have hb4 := HB3.out.alloc HB3.out.size (.cells #[.slice x 0 c, .int .u64 0, .bool false, .int .i64 0] 35)
  obtain ⟨w4, hw4⟩ : ∃ w4, w3.alloc (.cells #[.slice x 0 c, .int .u64 0, .bool false, .int .i64 0] 35) = w4 := ⟨_, rfl⟩
  obtain ⟨X, hX⟩ : ∃ X, w3.heap.size = X := ⟨_, rfl⟩
  try rw [hw4]
  try rw [hX]
  rw [hw4, hX] at hx3
  rw [hw4] at hb4
  have HX4 := Lib.hid hx3
  have HB4 := Lib.hid hb4
  clear hx3 hb4 hw4 hX HB3
  refine (take_arg 0 65 g w4 (.inr (by decide))).mono ?_
  rintro e w5 ⟨rfl, hb5⟩
  have hx5 := HX4.out.below hb5 HX4.out.lt
  have x0 := hx5.cell 0 rfl
  have x2 := hx5.cell 2 rfl
  have hlt := hx5.lt
  have HB5 := Lib.hid (fun o => (HB4.out.trans (hb5.mono HB4.out.size)).alloc (Nat.le_trans HB4.out.size hb5.size) o)
  clear hb5 hx5
  go_wp2_with fail
  refine (code_nil _).mono ?_
  rintro e w6 ⟨rfl, rfl⟩
  go_wp2_with fail
  refine (code_code 1 _ (by decide) (by decide)).mono ?_
  rintro e w6 ⟨rfl, rfl⟩
  go_wp2
  go_ret
  exact ⟨rfl, HB5.out _⟩

set_option maxRecDepth 100000 in
set_option maxHeartbeats 4000000 in
theorem shipTakes_all (v : Value) (l : List A9v) (fr : Nat) (n : Int) (w : World) (h : IsA w v l) (hf : ∀ x ∈ l, x.1.n.fits) :
    Calls Tryz.prog 3 #[v, .int .u64 (fr : Int), .int .i64 n] w fun e w' => e = .returned (.bool true) ∧ Below w.heap.size w w' := by
  have HA := Lib.hid (alive13 w)
  have HH := Lib.hid h
  have HF := Lib.hid hf
  have HFA := Lib.hid (fun wx (hb : Below w.heap.size w wx) => far_w v l wx (HH.out.mono hb (Nat.le_refl _)))
  cases hr : farA (l.map (·.1)) with
  | true =>
    rw [hr] at HFA
    clear hr h hf
    go_enter Tryz.func3, Tryz.ntmps3
    go_wp2_with fail
    refine HA.out.mono ?_
    rintro e w1 ⟨rfl, hb⟩
    have HB := Lib.hid hb
    clear hb
    go_wp2_with fail
    refine (HFA.out _ HB.out).mono ?_
    rintro e w2 ⟨rfl, rfl⟩
    go_wp2
    go_ret
    exact ⟨rfl, HB.out⟩
  | false =>
    have HM := Lib.hid (fun wx (hb : Below w.heap.size w wx) => made_any 1 1048576 (by decide) (by decide) (by decide) (by decide) v l wx (HH.out.mono hb (Nat.le_refl _)) (far_few hr).1 (far_few hr).2 HF.out)
    rw [hr] at HFA
    clear hr h hf
    go_enter Tryz.func3, Tryz.ntmps3
    go_wp2_with fail
    refine HA.out.mono ?_
    rintro e w1 ⟨rfl, hb⟩
    have HB := Lib.hid hb
    clear hb
    go_wp2_with fail
    refine (HFA.out _ HB.out).mono ?_
    rintro e w1' ⟨rfl, rfl⟩
    go_wp2_with fail
    refine (HM.out _ HB.out).mono ?_
    rintro e w2 ⟨g, p, S, d, k, s, lv, dv, ps, rfl, hr, hdoc, hb, hS, hm⟩
    obtain ⟨lx, lc, rfl, _, _⟩ := IsX.slice hdoc.l
    obtain ⟨dx, dc, rfl, _, _⟩ := IsX.slice hdoc.d.1
    obtain ⟨I, hI⟩ : ∃ I, s.idx.length = I := ⟨_, rfl⟩
    obtain ⟨N, hN⟩ : ∃ N, ps.length = N := ⟨_, rfl⟩
    have HFW := Lib.hid (show s.ns.length < 4096 from hr.ok.few)
    have HCK := Lib.hid hr.ok.all
    rw [hI, hN] at hdoc ⊢
    have HR := Lib.hid hr
    have HD := Lib.hid hdoc
    have HB2 := Lib.hid (HB.out.trans (hb.mono HB.out.size))
    have HI := Lib.hid hI
    have HN := Lib.hid hN
    clear hr hdoc hb hS hm hI hN HM HFA HA HB
    go_wp2_with fail
    obtain ⟨w3, hw3⟩ : ∃ w3, w2.alloc (.cells #[.int .i64 (s.num : Int), .int .i64 (s.most : Int), .int .i64 (s.epoch : Int), .int .i64 (s.size : Int), .bool s.shut, .slice lx I lc, .slice dx N dc] 30) = w3 := ⟨_, rfl⟩
    obtain ⟨B, hBq⟩ : ∃ B, w2.heap.size = B := ⟨_, rfl⟩
    have hb3 := below_alloc w2 (.cells #[.int .i64 (s.num : Int), .int .i64 (s.most : Int), .int .i64 (s.epoch : Int), .int .i64 (s.size : Int), .bool s.shut, .slice lx I lc, .slice dx N dc] 30)
    have HR3 := Lib.hid (HR.out.below hb3)
    have HD3 := Lib.hid (HD.out.below hb3)
    have HB3 := Lib.hid (HB2.out.alloc HB2.out.size (.cells #[.int .i64 (s.num : Int), .int .i64 (s.most : Int), .int .i64 (s.epoch : Int), .int .i64 (s.size : Int), .bool s.shut, .slice lx I lc, .slice dx N dc] 30))
    have HV3 := Lib.hid (Blk.new w2 #[.int .i64 (s.num : Int), .int .i64 (s.most : Int), .int .i64 (s.epoch : Int), .int .i64 (s.size : Int), .bool s.shut, .slice lx I lc, .slice dx N dc] 30)
    rw [hw3] at HR3 HD3 HB3 HV3
    rw [hBq] at HV3
    try rw [hw3]
    try rw [hBq]
    clear hw3 hBq hb3 HR HD HB2
    by_cases hn : n < 1 ∨ 64 < n
    · refine (take_arg (fr : Int) n g w3 hn).mono ?_
      rintro e w4 ⟨rfl, hb4⟩
      have HB4 := Lib.hid (fun o => (HB3.out.trans (hb4.mono HB3.out.size)).alloc (Nat.le_trans HB3.out.size hb4.size) o)
      clear hb4
      by_cases h1 : n < 1
      · have h1' : decide (n < 1) = true := decide_eq_true h1
        go_wp2_with fail
        refine (code_code 1 _ (by decide) (by decide)).mono ?_
        rintro e w6 ⟨rfl, rfl⟩
        go_wp2
        go_ret
        exact ⟨rfl, HB4.out _⟩
      · have h1' : decide (n < 1) = false := decide_eq_false h1
        have h2 : (64 : Int) < n := by omega
        have h2' : decide ((64 : Int) < n) = true := decide_eq_true h2
        go_wp2_with fail
        refine (code_code 1 _ (by decide) (by decide)).mono ?_
        rintro e w6 ⟨rfl, rfl⟩
        go_wp2
        go_ret
        exact ⟨rfl, HB4.out _⟩
    · obtain ⟨m, rfl⟩ := Int.eq_ofNat_of_zero_le (show 0 ≤ n by omega)
      have hm1 : 1 ≤ m := by omega
      have hm64 : m ≤ 64 := by omega
      have h1' : decide ((m : Int) < 1) = false := decide_eq_false (by omega)
      have h1n : ¬ m < 1 := by omega
      have h2' : decide ((64 : Int) < (m : Int)) = false := decide_eq_false (by omega)
      have h2n : ¬ 64 < m := by omega
      clear hn
      refine (take_v fr m g p k S d s w3 HR3.out hm1 hm64).mono ?_
      rintro e w4 ⟨x, c, qs, rfl, hq, hqs, _, _, hb4⟩
      obtain ⟨L, hL⟩ : ∃ L, qs.length = L := ⟨_, rfl⟩
      obtain ⟨NX, hNX⟩ : ∃ NX, s.next fr m = NX := ⟨_, rfl⟩
      obtain ⟨MR, hMR⟩ : ∃ MR, s.more fr m = MR := ⟨_, rfl⟩
      rw [hL] at hqs
      rw [hL, hNX, hMR]
      have HQ := Lib.hid hq
      have HQS := Lib.hid hqs
      have HL := Lib.hid hL
      have HV4 := Lib.hid (HV3.out.below hb4 HV3.out.lt)
      have HD4 := Lib.hid (HD3.out.below hb4)
      have HB4 := Lib.hid (HB3.out.trans (hb4.mono HB3.out.size))
      have HNM := Lib.hid (show s.next fr m = NX ∧ s.more fr m = MR from ⟨hNX, hMR⟩)
      clear hq hqs hL hb4 hNX hMR HR3 HD3 HB3 HV3
      go_upto_region 11 with fail
      obtain ⟨w5, hw5⟩ : ∃ w5, w4.alloc (.cells #[.slice x L c, .int .u64 (NX : Int), .bool MR, .int .i64 0] 35) = w5 := ⟨_, rfl⟩
      obtain ⟨X, hXq⟩ : ∃ X, w4.heap.size = X := ⟨_, rfl⟩
      have hb5 := below_alloc w4 (.cells #[.slice x L c, .int .u64 (NX : Int), .bool MR, .int .i64 0] 35)
      have hX5 := Blk.new w4 #[.slice x L c, .int .u64 (NX : Int), .bool MR, .int .i64 0] 35
      rw [hw5] at hb5 hX5
      have HX5 := Lib.hid (show Blk w5 X #[.slice x L c, .int .u64 (NX : Int), .bool MR, .int .i64 0] 35 from hXq ▸ hX5)
      have HV5 := Lib.hid (HV4.out.below hb5 HV4.out.lt)
      have HD5 := Lib.hid (HD4.out.below hb5)
      have HQ5 := Lib.hid (HQS.out.mono hb5 (Nat.le_refl _))
      have HB5 := Lib.hid (HB4.out.trans (hb5.mono HB4.out.size))
      clear hb5 hX5 HV4 HD4 HQS HB4
      rw [hw5]
      try rw [hXq]
      clear hw5 hXq
      have hv := HV5.out
      have v0 := hv.cell 0 rfl
      have v1 := hv.cell 1 rfl
      have v2 := hv.cell 2 rfl
      have v3 := hv.cell 3 rfl
      have v4 := hv.cell 4 rfl
      have v5 := hv.cell 5 rfl
      have v6 := hv.cell 6 rfl
      have hBl := hv.lt
      clear hv
      go_wp2_with fail
      refine (rtake_any fr m S s _ _ ps w5 HD5.out hm1 hm64 HFW.out).mono ?_
      rintro e w6 ⟨x2, qs2, c2, rfl, hq2, hqs2, hb6⟩
      have hL2 : qs2.length = L := by
        have h1 := congrArg List.length hq2
        have h2 := congrArg List.length HQ.out
        rw [List.length_map] at h1 h2
        rw [← HL.out]; omega
      rw [hL2] at hqs2
      rw [hL2, HNM.out.1, HNM.out.2]
      have HL2 := Lib.hid hL2
      have HQ2 := Lib.hid hq2
      have HQS2 := Lib.hid hqs2
      have HQ6 := Lib.hid (HQ5.out.mono hb6 (Nat.le_refl _))
      have HX6 := Lib.hid (HX5.out.below hb6 HX5.out.lt)
      have HB6 := Lib.hid (HB5.out.trans (hb6.mono HB5.out.size))
      have hx0 := HX6.out.cell 0 rfl
      have hx1 := HX6.out.cell 1 rfl
      have hx2 := HX6.out.cell 2 rfl
      have hx3 := HX6.out.cell 3 rfl
      have hXl := HX6.out.lt
      have hlb : L ≤ 64 := by
        have h1 := congrArg List.length hq2
        rw [List.length_map, hL2, s.load_len] at h1
        omega
      clear hL2 hq2 hqs2 hb6 v0 v1 v2 v3 v4 v5 v6 HQ5 HX5 HB5 HD5 HV5
      go_wp2_with fail
      refine (code_nil _).mono ?_
      rintro e w7 ⟨rfl, rfl⟩
      have HSAME := Lib.hid (show ∀ i : Nat, i < L → ∃ (q : Ndl) (u u2 : Value), qs[i]? = some (q, u) ∧ qs2[i]? = some (q, u2) ∧ q.data.length ≤ 1099511627776 from fun i hi => by
        have h1 : i < qs.length := by rw [HL.out]; exact hi
        have h2 : i < qs2.length := by rw [HL2.out]; exact hi
        have h3 : (qs.map (·.1))[i]? = (qs2.map (·.1))[i]? := by rw [HQ.out, HQ2.out]
        rw [List.getElem?_map, List.getElem?_map, List.getElem?_eq_getElem h1, List.getElem?_eq_getElem h2] at h3
        simp only [Option.map_some, Option.some.injEq] at h3
        refine ⟨qs[i].1, qs[i].2, qs2[i].2, List.getElem?_eq_getElem h1, by rw [h3]; exact List.getElem?_eq_getElem h2, ?_⟩
        have h4 : qs[i].1 ∈ s.load fr m := by rw [← HQ.out]; exact List.mem_map.2 ⟨_, List.getElem_mem h1, rfl⟩
        have h5 := Vst.tops_mem (List.mem_of_mem_drop (List.mem_of_mem_take h4))
        have := (ncheck_ok (HCK.out _ (newest_mem h5).1).2).1
        omega)
      go_wp2_with fail
      go_loopw [15] (fun c wr => ∃ i : Nat, i ≤ L ∧ c = .int .i64 (i : Int) ∧ Hid (Below w6.heap.size w6 wr)) (fun c _ => (L - intOf c).toNat)
      case atStart => exact ⟨0, Nat.zero_le _, rfl, Lib.hid (Below.refl _ _)⟩
      case round =>
        obtain ⟨i, hiL, rfl, HW⟩ := hrel
        clear hx0 hx1 hx2 hx3 hXl
        by_cases hi : i < L
        · obtain ⟨q, u, u2, g1, g2, g3⟩ := HSAME.out i hi
          obtain ⟨b1, o1, hi1, a0, a1, a2, a3, ha⟩ := ndl_at (HQ6.out.mono HW.out (Nat.le_refl _)) 33 48 Tryz.underlying33 Tryz.sizeNdA g1
          obtain ⟨b2, o2, hi2, d0, d1, d2, d3, hd⟩ := ndl_at (HQS2.out.mono HW.out (Nat.le_refl _)) 28 47 Tryz.underlying28 Tryz.sizeNdR g2
          have hxc := HX6.out.below HW.out HX6.out.lt
          have hx0 := hxc.cell 0 rfl
          have e1 : IntKind.i64.wrap ((i : Int) + 1) = (i : Int) + 1 := IntWalk.i64_in _ (by omega)
          have HSM := Lib.hid (show Calls Tryz.prog 15 #[Nd.nval q u, Nd.nval q u2] wr.drew (fun e w' => e = .returned (.bool true) ∧ Below wr.drew.heap.size wr.drew w') by
            have := Nd.refsame_any q q u u2 wr.drew (ha.mono ((Below.refl _ wr).drew) (Nat.le_refl _)) (hd.mono ((Below.refl _ wr).drew) (Nat.le_refl _)) g3
            rw [sameN_self] at this
            exact this)
          obtain ⟨qk, qc, qg, qd⟩ := q
          dsimp only at a0 a1 a2 a3 d0 d1 d2 d3 HSM
          clear g1 g2 g3 ha hd hxc
          go_upto_region 17 with fail
          go_still_tail 9, (by kernel_rfl)
          change wpList _ _ _ _ _ wr.drew
          go_wp2_with fail
          refine HSM.out.mono ?_
          rintro e w8 ⟨rfl, hb8⟩
          have HW8 := Lib.hid ((HW.out.drew).trans (hb8.mono HW.out.size))
          clear hb8 HSM a0 a1 a2 a3 d0 d1 d2 d3 hx0
          go_wp2
          go_roundw
          case rel => exact ⟨i + 1, by omega, by simp, HW8⟩
          case measure => simp [intOf] <;> omega
        · obtain rfl : L = i := by omega
          have HBF := Lib.hid (HB6.out.trans (HW.out.mono HB6.out.size))
          go_wp2
          go_ret
          exact ⟨rfl, HBF.out⟩

end Go.Proofs.YtoblbipkkdiddaaGreatDoor
end
