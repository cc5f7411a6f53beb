/- The document's net (layer 15) by contracts: Apart, without. -/
import Derived.Test.YtofhbnnheadmlaaChecked
import Derived.Test.YtofhbnnheadmlaaNetp
import Derived.Test.YtofhbnnheadmlaaBlk
import Derived.WalkKit
import Derived.ProofKit
import Derived.Lib.Hide
set_option linter.unusedVariables false
set_option linter.unusedSimpArgs false
namespace Go.Proofs.Ytofhbnnheadmlaa
open Go.RowKit Go.Cor

/-- A pair's cells, a message's cells. -/
def pcl (p : Int × Int) : List Value := [.int .i64 p.1, .int .i64 p.2]
theorem pcl_len (p : Int × Int) : (pcl p).length = 2 := rfl
def mcl (x : Msg × Value) : List Value := [.int .i64 x.1.fr, .int .i64 x.1.to, .int .i64 x.1.kd, .int .i64 x.1.vo, .int .i64 x.1.li, .int .u64 (x.1.id : Int), .int .i64 x.1.co, .bool x.1.has, .int .u64 (x.1.n.key : Int), .int .u32 (x.1.n.cookie : Int), .bool x.1.n.gone, x.2]
theorem mcl_len (x : Msg × Value) : (mcl x).length = 12 := rfl
/-- A slice of messages, a slice of pairs. -/
def IsM (w : World) (v : Value) (l : List (Msg × Value)) : Prop := IsX w 12 v l.length (row mcl l) ∧ ∀ x ∈ l, IsB w x.2 x.1.n.data ∧ x.2.oneCell' = true
def IsC (w : World) (v : Value) (c : List (Int × Int)) : Prop := IsX w 2 v c.length (row pcl c)
theorem Try.sizePair : (Try.prog.info? 67).map (·.size) = some 2 := by kernel_rfl
theorem row2_at (c : List (Int × Int)) {i : Nat} {x : Int × Int} (hx : c[i]? = some x) (j : Nat) (hj : j < 2) : (row pcl c)[i * 2 + j]? = (pcl x)[j]? := row_get pcl_len hx j hj
set_option maxRecDepth 100000 in
set_option maxHeartbeats 4000000 in
theorem rapart_any (xl : Option Addr) (ll cl : Nat) (xc : Option Addr) (cc : Nat) (c : List (Int × Int)) (a b : Int) (w : World) (hc : IsC w (.slice xc c.length cc) c) (hl : c.length ≤ 1099511627776) :
    Calls Try.prog 17 #[.agg #[.slice xl ll cl, .slice xc c.length cc], .int .i64 a, .int .i64 b] w fun e w' => e = .returned (.bool (apartP c a b)) ∧ Below w.heap.size w w' := by
  obtain ⟨N, hN⟩ : ∃ N, c.length = N := ⟨_, rfl⟩
  unfold IsC at hc
  obtain ⟨R, hR⟩ : ∃ R, apartP c a b = R := ⟨_, rfl⟩
  rw [hR]
  rw [hN] at hc hl ⊢
  have HR := Lib.hid hR
  have HCL := Lib.hid hN
  have hB := (Below.refl w.heap.size w).alloc (Nat.le_refl _) (.cells #[.slice xl ll cl, .slice xc N cc] 38)
  have hX := hc.mono hB (Nat.le_refl _)
  have hbx := Blk.new w #[.slice xl ll cl, .slice xc N cc] 38
  have hlen := fun W => len_X (P := Try.prog) hc 36 3 67 Try.underlying36 W
  clear hc hN hR
  go_enter Try.func17, Try.ntmps17
  go_wp2_with fail
  obtain ⟨w1, hw1⟩ : ∃ w1, w.alloc (.cells #[.slice xl ll cl, .slice xc N cc] 38) = w1 := ⟨_, rfl⟩
  obtain ⟨X, hXX⟩ : ∃ X, w.heap.size = X := ⟨_, rfl⟩
  rw [hw1] at hB hX hbx
  rw [hXX] at hbx
  try rw [hw1]
  try rw [hXX]
  have HB := Lib.hid hB
  have HX := Lib.hid hX
  have d0 := hbx.cell 0 rfl
  have d1 := hbx.cell 1 rfl
  clear hB hX hbx hw1 hXX
  go_loopw [7] (fun k wr => ∃ i : Nat, i ≤ N ∧ k = .int .i64 i ∧ wr = w1 ∧ Hid (∀ x ∈ c.take i, pairB x a b = false)) (fun k _ => N - (intOf k).toNat)
  case atStart => exact ⟨0, Nat.zero_le _, rfl, rfl, Lib.hid (fun x hx => by simp at hx)⟩
  case round =>
    obtain ⟨i, hiN, rfl, rfl, HN⟩ := hrel
    by_cases hlt : i < N
    · obtain ⟨b0, o0, hidx, _, hcell⟩ := indexAt_X HX.out 36 67 Try.underlying36 Try.sizePair i hlt
      obtain ⟨⟨p, q⟩, hpq⟩ : ∃ x, c[i]'(by rw [HCL.out]; exact hlt) = x := ⟨_, rfl⟩
      have HPE := Lib.hid hpq
      have HPM := Lib.hid (show (p, q) ∈ c from hpq ▸ List.getElem_mem _)
      have c0 := hcell 0 (by decide)
      have c1 := hcell 1 (by decide)
      rw [row2_at c (x := (p, q)) (by rw [List.getElem?_eq_getElem (by rw [HCL.out]; exact hlt), hpq]) _ (by decide)] at c0 c1
      have e0 : wr.cell? ⟨b0, o0, none⟩ = some (.int .i64 p) := c0
      have e1 : wr.cell? ⟨b0, o0 + 1, none⟩ = some (.int .i64 q) := c1
      clear hcell hpq c0 c1
      by_cases hpa : p = a
      · by_cases hqb : q = b
        · have kpa : (p == a) = true := beq_iff_eq.2 hpa
          have Hpa := Lib.hid hpa
          clear hpa
          have kqb : (q == b) = true := beq_iff_eq.2 hqb
          have Hqb := Lib.hid hqb
          clear hqb
          have hR1 : R = true := by
            rw [← HR.out]
            exact List.any_eq_true.2 ⟨(p, q), HPM.out, decide_eq_true (by dsimp only; exact .inl ⟨Hpa.out, Hqb.out⟩)⟩
          go_wp2
          go_ret
          exact ⟨by rw [hR1]; rfl, HB.out⟩
        · by_cases hpb : p = b
          · by_cases hqa : q = a
            · have kpa : (p == a) = true := beq_iff_eq.2 hpa
              have Hpa := Lib.hid hpa
              clear hpa
              have kqb : (q == b) = false := beq_eq_false_iff_ne.2 hqb
              have Hqb := Lib.hid hqb
              clear hqb
              have kpb : (p == b) = true := beq_iff_eq.2 hpb
              have Hpb := Lib.hid hpb
              clear hpb
              have kqa : (q == a) = true := beq_iff_eq.2 hqa
              have Hqa := Lib.hid hqa
              clear hqa
              have hR1 : R = true := by
                rw [← HR.out]
                exact List.any_eq_true.2 ⟨(p, q), HPM.out, decide_eq_true (by dsimp only; exact .inr ⟨Hpb.out, Hqa.out⟩)⟩
              go_wp2
              go_ret
              exact ⟨by rw [hR1]; rfl, HB.out⟩
            · have kpa : (p == a) = true := beq_iff_eq.2 hpa
              have Hpa := Lib.hid hpa
              clear hpa
              have kqb : (q == b) = false := beq_eq_false_iff_ne.2 hqb
              have Hqb := Lib.hid hqb
              clear hqb
              have kpb : (p == b) = true := beq_iff_eq.2 hpb
              have Hpb := Lib.hid hpb
              clear hpb
              have kqa : (q == a) = false := beq_eq_false_iff_ne.2 hqa
              have Hqa := Lib.hid hqa
              clear hqa
              have hno : pairB (p, q) a b = false := decide_eq_false (by dsimp only; rintro (⟨e1, e2⟩ | ⟨e1, e2⟩) <;> first | exact Hqb.out e1 | exact Hqb.out e2 | exact Hqa.out e1 | exact Hqa.out e2)
              have HN1 := Lib.hid (show ∀ x ∈ c.take (i + 1), pairB x a b = false from fun x hx => by
                rw [List.take_succ_eq_append_getElem (by rw [HCL.out]; exact hlt)] at hx
                rcases List.mem_append.1 hx with h | h
                · exact HN.out x h
                · rw [List.mem_singleton.1 h, HPE.out]; exact hno)
              clear hno
              go_wp2
              go_roundw
              case rel => exact ⟨i + 1, by omega, by go_num, by first | rfl | trivial, HN1⟩
              case measure => simp [intOf]; omega
          · have kpa : (p == a) = true := beq_iff_eq.2 hpa
            have Hpa := Lib.hid hpa
            clear hpa
            have kqb : (q == b) = false := beq_eq_false_iff_ne.2 hqb
            have Hqb := Lib.hid hqb
            clear hqb
            have kpb : (p == b) = false := beq_eq_false_iff_ne.2 hpb
            have Hpb := Lib.hid hpb
            clear hpb
            have hno : pairB (p, q) a b = false := decide_eq_false (by dsimp only; rintro (⟨e1, e2⟩ | ⟨e1, e2⟩) <;> first | exact Hqb.out e1 | exact Hqb.out e2 | exact Hpb.out e1 | exact Hpb.out e2)
            have HN1 := Lib.hid (show ∀ x ∈ c.take (i + 1), pairB x a b = false from fun x hx => by
              rw [List.take_succ_eq_append_getElem (by rw [HCL.out]; exact hlt)] at hx
              rcases List.mem_append.1 hx with h | h
              · exact HN.out x h
              · rw [List.mem_singleton.1 h, HPE.out]; exact hno)
            clear hno
            go_wp2
            go_roundw
            case rel => exact ⟨i + 1, by omega, by go_num, by first | rfl | trivial, HN1⟩
            case measure => simp [intOf]; omega
      · by_cases hpb : p = b
        · by_cases hqa : q = a
          · have kpa : (p == a) = false := beq_eq_false_iff_ne.2 hpa
            have Hpa := Lib.hid hpa
            clear hpa
            have kpb : (p == b) = true := beq_iff_eq.2 hpb
            have Hpb := Lib.hid hpb
            clear hpb
            have kqa : (q == a) = true := beq_iff_eq.2 hqa
            have Hqa := Lib.hid hqa
            clear hqa
            have hR1 : R = true := by
              rw [← HR.out]
              exact List.any_eq_true.2 ⟨(p, q), HPM.out, decide_eq_true (by dsimp only; exact .inr ⟨Hpb.out, Hqa.out⟩)⟩
            go_wp2
            go_ret
            exact ⟨by rw [hR1]; rfl, HB.out⟩
          · have kpa : (p == a) = false := beq_eq_false_iff_ne.2 hpa
            have Hpa := Lib.hid hpa
            clear hpa
            have kpb : (p == b) = true := beq_iff_eq.2 hpb
            have Hpb := Lib.hid hpb
            clear hpb
            have kqa : (q == a) = false := beq_eq_false_iff_ne.2 hqa
            have Hqa := Lib.hid hqa
            clear hqa
            have hno : pairB (p, q) a b = false := decide_eq_false (by dsimp only; rintro (⟨e1, e2⟩ | ⟨e1, e2⟩) <;> first | exact Hpa.out e1 | exact Hpa.out e2 | exact Hqa.out e1 | exact Hqa.out e2)
            have HN1 := Lib.hid (show ∀ x ∈ c.take (i + 1), pairB x a b = false from fun x hx => by
              rw [List.take_succ_eq_append_getElem (by rw [HCL.out]; exact hlt)] at hx
              rcases List.mem_append.1 hx with h | h
              · exact HN.out x h
              · rw [List.mem_singleton.1 h, HPE.out]; exact hno)
            clear hno
            go_wp2
            go_roundw
            case rel => exact ⟨i + 1, by omega, by go_num, by first | rfl | trivial, HN1⟩
            case measure => simp [intOf]; omega
        · have kpa : (p == a) = false := beq_eq_false_iff_ne.2 hpa
          have Hpa := Lib.hid hpa
          clear hpa
          have kpb : (p == b) = false := beq_eq_false_iff_ne.2 hpb
          have Hpb := Lib.hid hpb
          clear hpb
          have hno : pairB (p, q) a b = false := decide_eq_false (by dsimp only; rintro (⟨e1, e2⟩ | ⟨e1, e2⟩) <;> first | exact Hpa.out e1 | exact Hpa.out e2 | exact Hpb.out e1 | exact Hpb.out e2)
          have HN1 := Lib.hid (show ∀ x ∈ c.take (i + 1), pairB x a b = false from fun x hx => by
            rw [List.take_succ_eq_append_getElem (by rw [HCL.out]; exact hlt)] at hx
            rcases List.mem_append.1 hx with h | h
            · exact HN.out x h
            · rw [List.mem_singleton.1 h, HPE.out]; exact hno)
          clear hno
          go_wp2
          go_roundw
          case rel => exact ⟨i + 1, by omega, by go_num, by first | rfl | trivial, HN1⟩
          case measure => simp [intOf]; omega
    · obtain rfl : i = N := by omega
      have hR0 : R = false := by
        rw [← HR.out]
        unfold apartP
        rw [List.any_eq_false]
        intro x hx
        have := HN.out x (by rw [← HCL.out, List.take_length]; exact hx)
        rw [this]; simp
      go_wp2
      go_ret
      exact ⟨by rw [hR0]; rfl, HB.out⟩
theorem Try.sizeMsg : (Try.prog.info? 30).map (·.size) = some 12 := by kernel_rfl
theorem Try.infoMsg14 : (Try.prog.info? 30).map (fun i => (i.zero, i.size, i.bytes)) = some (some (.agg #[.int .i64 0, .int .i64 0, .int .i64 0, .int .i64 0, .int .i64 0, .int .u64 0, .int .i64 0, .bool false, .int .u64 0, .int .u32 0, .bool false, .slice none 0 0]), 12, 104) := by kernel_rfl
theorem IsM.one {w : World} {v : Value} {l : List (Msg × Value)} (h : IsM w v l) : ∀ u ∈ row mcl l, u.oneCell' = true := row_mem fun x hx u hu => by
  simp only [mcl, List.mem_cons, List.not_mem_nil, or_false] at hu
  rcases hu with rfl | rfl | rfl | rfl | rfl | rfl | rfl | rfl | rfl | rfl | rfl | rfl
  all_goals first | rfl | exact (h.2 x hx).2
theorem IsM.mono {w w' : World} {v : Value} {l : List (Msg × Value)} {B : Nat} (h : IsM w v l) (hb : Below B w w') (hB : w.heap.size ≤ B) : IsM w' v l := ⟨h.1.mono hb hB, fun x hx => ⟨(h.2 x hx).1.mono hb hB, (h.2 x hx).2⟩⟩
set_option maxRecDepth 100000 in
set_option maxHeartbeats 2000000 in
theorem rwithout_any (x : Option Addr) (cc : Nat) (l : List (Msg × Value)) (i : Nat) (w : World) (hv : IsM w (.slice x l.length cc) l) (hi : i < l.length) (hl : l.length ≤ 4096) :
    Calls Try.prog 24 #[.slice x l.length cc, .int .i64 (i : Int)] w fun e w' => ∃ y k, e = .returned (.slice y (l.length - 1) k) ∧ w'.ownsRow w.heap.size 30 12 (.slice y (l.length - 1) k) (l.length - 1) (row mcl (l.eraseIdx i)) ∧ IsM w' (.slice y (l.length - 1) k) (l.eraseIdx i) ∧ Below w.heap.size w w' := by
  obtain ⟨i0, hi0, hz0, hz1, hz2⟩ := info_parts Try.infoMsg14
  obtain ⟨N, hN⟩ : ∃ N, l.length = N := ⟨_, rfl⟩
  have HM := Lib.hid hv.2
  have hx := hv.1
  have hone := hv.one
  rw [hN] at hx hi hl ⊢
  have r1 := fun W => slice_h_X (P := Try.prog) 12 x N cc 35 30 Try.underlying35 Try.sizeMsg i (by obtain ⟨a, cp, e, h1, _⟩ := hx; cases e; omega) W
  have r2 := slice_l_X (P := Try.prog) hx 35 30 Try.underlying35 Try.sizeMsg (i + 1) (by omega)
  have X1 : IsX w 12 (.slice x i cc) i (row mcl (l.take i)) := by
    have := hx.take (j := i) (by omega)
    rwa [row_take mcl_len] at this
  have X2 : IsX w 12 (sliced x (i + 1) N cc 12) (N - (i + 1)) (row mcl (l.drop (i + 1))) := by
    have := hx.piece (lo := i + 1) (hi := N) (by omega) (by omega)
    rw [row_drop mcl_len, row_take mcl_len, List.take_of_length_le (by rw [List.length_drop, hN]; omega)] at this
    exact this
  obtain ⟨sv, hsv⟩ : ∃ v, sliced x (i + 1) N cc 12 = v := ⟨_, rfl⟩
  rw [hsv] at r2 X2
  have r2 : ∀ W, (Instr.slice 35 (.slice x N cc) (some (.int .i64 ((i : Int) + 1))) none none).run Try.prog W = .ok sv W := r2
  have ei : IntKind.i64.wrap ((i : Int) + 1) = (i : Int) + 1 := IntWalk.i64_in _ (by omega)
  obtain ⟨v0, hv0⟩ : ∃ v, Value.slice x N cc = v := ⟨_, rfl⟩
  obtain ⟨v1, hv1⟩ : ∃ v, Value.slice x i cc = v := ⟨_, rfl⟩
  have r1 : ∀ W, (Instr.slice 35 v0 none (some (.int .i64 (i : Int))) none).run Try.prog W = .ok v1 W := by rw [← hv0, ← hv1]; exact r1
  have r2 : ∀ W, (Instr.slice 35 v0 (some (.int .i64 ((i : Int) + 1))) none none).run Try.prog W = .ok sv W := by rw [← hv0]; exact r2
  rw [hv1] at X1
  rw [hv0]
  have HX1 := Lib.hid X1
  have HX2 := Lib.hid X2
  have HO1 := Lib.hid (show ∀ u ∈ row mcl (l.take i), u.oneCell' = true from fun u hu => hone u (by
    obtain ⟨y, hy, hu⟩ := List.mem_flatMap.1 hu
    exact List.mem_flatMap.2 ⟨y, List.mem_of_mem_take hy, hu⟩))
  have HO2 := Lib.hid (show ∀ u ∈ row mcl (l.drop (i + 1)), u.oneCell' = true from fun u hu => hone u (by
    obtain ⟨y, hy, hu⟩ := List.mem_flatMap.1 hu
    exact List.mem_flatMap.2 ⟨y, List.mem_of_mem_drop hy, hu⟩))
  have HN := Lib.hid hN
  have HE := Lib.hid (show row mcl (l.take i) ++ row mcl (l.drop (i + 1)) = row mcl (l.eraseIdx i) by rw [← row_append, ← List.eraseIdx_eq_take_drop_succ])
  clear X1 X2 hx hone hv hN hsv hv0 hv1
  go_enter Try.func24, Try.ntmps24
  go_wp2_with (at_builtin; refine wpList_append_X (by rfl) _ _ 35 35 rfl (fun _ _ _ => rfl) w.heap.size 30 i0 _ 12 104 Try.underlying35 hi0 hz0 hz1 hz2 rfl (by decide) _ [] 0 rfl (World.ownsRow_lit _ #[] 0 (Nat.le_refl _) (Nat.zero_le _) rfl) _ i _ rfl (HX1.out.mono ((Below.refl _ _).alloc (Nat.le_refl _) _) (Nat.le_refl _)) HO1.out (by unfold maxLen; omega) (by omega) (by simp) ?_)
  intro v4 w4 hown4 hg4 _
  have HB4 := Lib.hid (show Below w.heap.size w w4 from ((Below.refl _ _).alloc (Nat.le_refl _) _).grown hg4 (by simp) (fun k hk => by
    have e : some w.heap.size = some k := hk
    cases e
    exact Nat.le_refl _))
  have HW4 := Lib.hid (show w4.ownsRow w.heap.size 30 12 v4 i (row mcl (l.take i)) from by simpa using hown4)
  clear hown4 hg4
  go_wp2_with (at_builtin; refine wpList_append_X (by rfl) _ _ 35 35 rfl (fun _ _ _ => rfl) w.heap.size 30 i0 _ 12 104 Try.underlying35 hi0 hz0 hz1 hz2 rfl (by decide) _ (row mcl (l.take i)) i rfl HW4.out _ (N - (i + 1)) _ rfl (HX2.out.mono HB4.out (Nat.le_refl _)) HO2.out (by unfold maxLen; omega) (by omega) HB4.out.size ?_)
  intro v5 w5 hown5 hg5 _
  have HB5 := Lib.hid (show Below w.heap.size w w5 from HB4.out.grown hg5 HB4.out.size (fun k hk => (HW4.out.lt k hk).1))
  have hown5 : w5.ownsRow w.heap.size 30 12 v5 (N - 1) (row mcl (l.eraseIdx i)) := by
    rw [HE.out] at hown5
    rwa [show i + (N - (i + 1)) = N - 1 by omega] at hown5
  obtain ⟨y, k, rfl, _, _⟩ := ownsRow_slice hown5
  have HW5 := Lib.hid hown5
  have HM5 := Lib.hid (show IsM w5 (.slice y (N - 1) k) (l.eraseIdx i) from ⟨by
    rw [show (l.eraseIdx i).length = N - 1 by rw [List.length_eraseIdx, if_pos (by rw [HN.out]; exact hi), HN.out]]
    exact IsX.own hown5, fun z hz => ⟨(HM.out z (List.mem_of_mem_eraseIdx hz)).1.mono HB5.out (Nat.le_refl _), (HM.out z (List.mem_of_mem_eraseIdx hz)).2⟩⟩)
  clear hown5 hg5
  go_wp2
  go_ret
  exact ⟨y, k, rfl, HW5.out, HM5.out, HB5.out⟩

end Go.Proofs.Ytofhbnnheadmlaa
